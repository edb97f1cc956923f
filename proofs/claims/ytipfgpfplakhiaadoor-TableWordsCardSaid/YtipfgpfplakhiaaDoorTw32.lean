import Derived.Test.YtipfgpfplakhiaaDoorTw9
import Derived.Test.YtipfgpfplakhiaaDoorTw11
set_option linter.unusedVariables false
set_option linter.unusedSimpArgs false
set_option maxRecDepth 20000
set_option maxHeartbeats 4000000
namespace Go.Proofs.YtipfgpfplakhiaaDoor
open Go Go.RowKit
section
attribute [local go_sem ↓] Go.wp_at_zero Go.wp_at_succ
def yea (w:World) (g:Nat) (s:ByteArray) (o:R (Nat->Bool)) (st:St) (e:Ending) (w':World):Prop:=
 ∃ q st',e = .returned (setV q)∧Rdr w' g s st'∧w.grownBy w' (some g)∧Rel s o st q st'
theorem zxa (s:ByteArray) (st st2:St) (T0:R (Nat->Bool)) (q:Nat->Bool) (hr:Rel s T0 st q st2) (h93:st2.bad=0->isB s st2.pos 93=true) (neg:Bool):
 Rel s (zb1 T0 fun q p => .ok (if neg=true then notP q else q,p+1)) st (if neg=true then notP q else q) (st2.next s).2:=by
 refine hr.then (fun h=>?_) fun _ h=>?_
 .rw[zep s st2 h];exact⟨rfl,rfl,rfl,hr.pos⟩
 .have:=zh4 (h93 h);rw[zeo s st2 h this.1];exact Rel.mk0 rfl (show st2.pos+1<=s.size by omega) (fun h'=>absurd h h') fun _ => .inl ⟨h,rfl⟩
theorem ycp (w:World) (g:Nat) (s:ByteArray) (st:St) (h:Rdr w g s st) (hs:s.size<=1000) (hpos:st.pos<=s.size):
 Calls Tryd.prog 95 #[.pointer (some ⟨g,0,none⟩)] w (yea w g s (zia s st.pos) st):=by
 have b0:=Box4.new0 w;have r0:=h.alloc (.cells #[.int .u64 0,.int .u64 0,.int .u64 0,.int .u64 0] 53);have hO:w.grownBy (w.alloc (.cells #[.int .u64 0,.int .u64 0,.int .u64 0,.int .u64 0] 53)) (some g):=zb5 (zbo _ _) _;have hgw:=h.lt;have hgb:w.heap.size≠g:=yie;generalize hw0:w.alloc (.cells #[.int .u64 0,.int .u64 0,.int .u64 0,.int .u64 0] 53)=w0 at *;have HW:=Zh hw0;clear hw0;obtain⟨neg,hneg⟩:∃ neg,(st.peek s==94)=neg:=⟨_,rfl⟩;have HN:Hid (st.bad=0->neg=isB s st.pos 94):=by
  intro hb;rw[←hneg,ygc,←zbe s st hb 94];simp
 obtain⟨st1,hst1⟩:∃ st1,st1=if neg=true then st.step 1 else st:=⟨_,rfl⟩
 have hp1:st1.pos<=s.size:=by
  rw[hst1];split
  .have:=zbd s st (by simp_all);exact this.2
  .exact hpos
 have HS:=Zh hst1;obtain⟨c0,c1,c2,c3,c4⟩:=r0.cell;obtain⟨f0,f1,f2,f3,f4⟩:=r0.frozen;go_enter Tryd.func95,Tryd.ntmps95;go_wp2_with fail;rw[HW.o];clear HW hst1;go_upto_if 8 with (go_at_call 73;(with_reducible refine (zb2 _ g s st r0 hs).mono ?_);rintro e w1 ⟨rfl,n,rfl⟩)
 go_cut [3] (fun s3 wx=>s3 = .bool neg∧Rdr wx g s st1∧Box4 wx w.heap.size za9∧w.grownBy wx (some g))
 case first =>
  cases neg
  .go_wp2_with fail;go_meet;exact⟨rfl,by rw[HS.o,if_neg yii];exact r0.drewN _,b0,zap hO _⟩
  .have hpk:=(zbd s st (by simp at hneg;omega)).2;go_wp2_with fail;go_meet;exact⟨rfl,by rw[HS.o,if_pos yii];exact r0.setPos (st.pos+1),b0.far hgb _,zap (zce hO _) _⟩
 case rest =>
 clear r0 b0 hO c0 c1 c2 c3 c4 f0 f1 f2 f3 f4 hneg;obtain⟨rfl,r0,b0,hO⟩:=hcut;have hir:=(zrq s st1 hp1).from (st:=st) (by rw[HS.o];split <;> rfl) (by rw[HS.o];split <;> rfl) (by rw[HS.o];split <;> rfl)
 have HI:=Zh (yao wc g s st1 r0 hs hp1);have HC:Hid (st.bad=0->zb1 (zb1 (zii s st1.pos) fun b p=>zbz (zbv s) (s.size+1) b p) (fun q p => .ok (if neg=true then notP q else q,p+1))=zia s st.pos):=by
  intro hb;have hn:=HN.o hb;rw[HS.o,hn];unfold zia;split <;> rfl
 generalize (st1.item s).1=q1 at *;generalize (st1.item s).2=st2 at *;have hgo:=Zh (Going.start (step:=zbv s) (f:=id) hir);generalize hm0:(if st2.bad=0 then s.size+1 else 0)=m0 at hgo;clear hir hm0 HN HS;simp only[id] at hgo;go_wp2_with (go_at_call 101;(with_reducible refine (HI.o).mono ?_);rintro e w2 ⟨rfl,r2,o2⟩;unfold setV);have bk:=Box4.new w2 q1;replace r2:=r2.alloc (.cells #[.int .u64 (word q1 0),.int .u64 (word q1 1),.int .u64 (word q1 2),.int .u64 (word q1 3)] 53);have b2:=(b0.grown o2 yiw).alloc (.cells #[.int .u64 (word q1 0),.int .u64 (word q1 1),.int .u64 (word q1 2),.int .u64 (word q1 3)] 53);have hO2:=zb5 (zal hO o2) (.cells #[.int .u64 (word q1 0),.int .u64 (word q1 1),.int .u64 (word q1 2),.int .u64 (word q1 3)] 53);have hbx:w.heap.size≠w2.heap.size:=(by have:=(b0.grown o2 yiw).lt;omega);have hgx:g≠w2.heap.size:=(by have:=o2.size;have:=r0.lt;omega);have hnx:w.heap.size<=w2.heap.size:=yfa hO.size o2.size;generalize w2.alloc (.cells #[.int .u64 (word q1 0),.int .u64 (word q1 1),.int .u64 (word q1 2),.int .u64 (word q1 3)] 53)=w3 at *;generalize w2.heap.size=gx at *;clear HI r0 b0 hO o2;go_loopg [] m0 (fun m wr=>∃ q st2,Rdr wr g s st2∧Box4 wr w.heap.size za9∧Box4 wr gx q∧w.grownBy wr (some g)∧Going s (zb1 (zii s st1.pos) fun b p=>zbz (zbv s) (s.size+1) b p) (zbv s) st m q st2)
 case atStart=>exact⟨q1,st2,r2,b2,bk,hO2,hgo.out⟩
 case round =>
  clear r2 b2 bk hO2 hgo;obtain⟨q,st2,r2,b2,bk,hO2,hgo⟩:=hrel;have hp2:=hgo.pos
  by_cases hround:st2.bad=0∧¬ st2.peek s=93
  .obtain⟨hb,hpk⟩:=hround;have h93:¬ isB s st2.pos 93=true:=fun h=>hpk ((zbe s st2 hb 93).2 h)
   have hst:zbv s q st2.pos=some (zb1 (zii s st2.pos) fun r p => .ok (orP q r,p)):=(by unfold zbv;rw[if_neg h93]);have hi:=zrq s st2 hp2;have HI:=Zh (fun w h=>yao w g s st2 h hs hp2);have HF:=Zh (zk1 s q st2.pos _ hst);generalize (st2.item s).1=q3 at *;generalize (st2.item s).2=st3 at *;have hre:Rel s (zb1 (zii s st2.pos) fun r p => .ok (orP q r,p)) st2 (orP q q3) st3:=hi.then (fun h=>⟨rfl,rfl,rfl,hi.pos⟩) fun _ h=>Rel.mk0 rfl hi.pos (fun h'=>absurd h h') fun _ => .inl ⟨h,rfl⟩
   have HG:=Zh (hgo.on hb hst hre HF.o);have hpk':(st2.peek s != 93)=true:=(by simpa using hpk);have hb':(st2.bad==0)=true:=(by simpa using hb);clear hgo hst hi hre HF hpk h93 hb;obtain⟨c0,c1,c2,c3,c4⟩:=r2.cell;obtain⟨k0,k1,k2,k3⟩:=bk.cell;go_wp2_with (go_at_call 73;(with_reducible refine (zb2 _ g s st2 r2 hs).mono ?_);rintro e w1 ⟨rfl,n,rfl⟩);replace r2:=r2.drewN n;replace b2:Box4 (wr.drewN n) w.heap.size za9:=b2;replace bk:Box4 (wr.drewN n) gx q:=bk;replace hO2:=zap hO2 n;generalize wr.drewN n=w4 at *;clear k0 k1 k2 k3 c0 c1 c2 c3 c4;obtain⟨k0,k1,k2,k3⟩:=bk.cell;have hgx':some gx≠some g:=yji;have hgb':some w.heap.size≠some g:=yiw;go_region_law (first
    | (go_simp;go_at_call 101;(with_reducible refine (HI.o _ (by first | exact r2.drew | exact r2)).mono ?_);rintro e w5 ⟨rfl,r5,o5⟩;unfold setV;have bk5:=(show Box4 w4.drew gx q from bk).grown o5 hgx';have b5:=(show Box4 w4.drew w.heap.size za9 from b2).grown o5 hgb';have hO5:=zal (zdm hO2) o5;obtain⟨l0,l1,l2,l3⟩:=bk5.cell)
    | (go_simp;go_at_call 102;(with_reducible refine (zyk q q3 _).mono ?_);rintro e w6 ⟨rfl,hb6⟩;unfold setV;have r6:=r5.stays hb6;have bk6:=bk5.stays hb6;have b6:=b5.stays hb6;have hO6:=zay hO5 hb6;obtain⟨m0,m1,m2,m3⟩:=bk6.cell;obtain⟨y0,y1,y2,y3⟩:=bk6.frozen))
   all_goals
    go_wp2;go_roundg (if st3.bad=0 then gk-1 else 0)
    case measure=>exact HG.o.1
    case rel=>exact⟨orP q q3,st3,r6.put4 hgx (orP q q3),b6.putFar hbx (orP q q3),bk6.put (orP q q3),zdl hO6 hnx (orP q q3),HG.o.2⟩
  .have hx:st2.bad=0->isB s st2.pos 93=true:=fun hb=>(zbe s st2 hb 93).1 (Classical.not_not.1 fun h=>hround ⟨hb,h⟩)
   have hre:=zxa s st st2 _ q (hgo.stop fun hb=>by unfold zbv;rw[if_pos (hx hb)]) hx neg;have HRE:=Zh (hre.swap HC.o);have HNX:=Zh (fun w h=>zcm w g s st2 h hs);generalize (st2.next s).2=st3 at *;generalize (st2.next s).1=c at *;clear hre hx hgo HC;obtain⟨c0,c1,c2,c3,c4⟩:=r2.cell
   by_cases hb:st2.bad=0
   .have hb':(st2.bad==0)=true:=(by simpa using hb);have hpk':(st2.peek s != 93)=false:=by simpa using Classical.not_not.1 fun h=>hround ⟨hb,h⟩
    clear hb hround;cases neg
    .go_wp2_with (first
      | (go_at_call 73;(with_reducible refine (zb2 _ g s st2 r2 hs).mono ?_);rintro e w1 ⟨rfl,n,rfl⟩)
      | (go_at_call 91;(with_reducible refine (HNX.o _ (r2.drewN n)).mono ?_);rintro e w5 ⟨rfl,r5,o5⟩;have bk5:=(show Box4 (wr.drewN n) gx q from bk).grown o5 yji;have b5:=(show Box4 (wr.drewN n) w.heap.size za9 from b2).grown o5 yiw;have hO5:=zal (zap hO2 n) o5;obtain⟨l0,l1,l2,l3⟩:=bk5.cell;obtain⟨m0,m1,m2,m3⟩:=b5.cell;obtain⟨y0,y1,y2,y3⟩:=b5.frozen))
     refine bodyPost_ret (v:=setV q) ?_ rfl ⟨q,st3,rfl,?_,?_,?_⟩
     .unfold setV;simp[results,Tryd.results95,go_sem,m0,m1,m2,m3]
     .exact r5.put4 (Ne.symm hgb) q
     .exact zdl hO5 (yez _) q
     .simpa using HRE.o
    .go_wp2_with (first
      | (go_at_call 73;(with_reducible refine (zb2 _ g s st2 r2 hs).mono ?_);rintro e w1 ⟨rfl,n,rfl⟩)
      | (go_at_call 91;(with_reducible refine (HNX.o _ (r2.drewN n)).mono ?_);rintro e w5 ⟨rfl,r5,o5⟩;have bk5:=(show Box4 (wr.drewN n) gx q from bk).grown o5 yji;have b5:=(show Box4 (wr.drewN n) w.heap.size za9 from b2).grown o5 yiw;have hO5:=zal (zap hO2 n) o5;obtain⟨l0,l1,l2,l3⟩:=bk5.cell)
      | (go_at_call 96;(with_reducible refine (zuz q _).mono ?_);rintro e w6 ⟨rfl,hb6⟩;unfold setV;have r6:=r5.stays hb6;have b6:=b5.stays hb6;have hO6:=zay hO5 hb6;obtain⟨m0,m1,m2,m3⟩:=b6.cell;obtain⟨y0,y1,y2,y3⟩:=b6.frozen))
     refine bodyPost_ret (v:=setV (notP q)) ?_ rfl ⟨notP q,st3,rfl,?_,?_,?_⟩
     .unfold setV;simp[results,Tryd.results95,go_sem,m0,m1,m2,m3]
     .exact r6.put4 (Ne.symm hgb) (notP q)
     .exact zdl hO6 (yez _) (notP q)
     .simpa using HRE.o
   .have hb':(st2.bad==0)=false:=(by simpa using hb);clear hb hround;cases neg
    .go_wp2_with (first
      | (go_at_call 91;(with_reducible refine (HNX.o _ r2).mono ?_);rintro e w5 ⟨rfl,r5,o5⟩;have bk5:=bk.grown o5 yji;have b5:=b2.grown o5 yiw;have hO5:=zal hO2 o5;obtain⟨l0,l1,l2,l3⟩:=bk5.cell;obtain⟨m0,m1,m2,m3⟩:=b5.cell;obtain⟨y0,y1,y2,y3⟩:=b5.frozen))
     refine bodyPost_ret (v:=setV q) ?_ rfl ⟨q,st3,rfl,?_,?_,?_⟩
     .unfold setV;simp[results,Tryd.results95,go_sem,m0,m1,m2,m3]
     .exact r5.put4 (Ne.symm hgb) q
     .exact zdl hO5 (yez _) q
     .simpa using HRE.o
    .go_wp2_with (first
      | (go_at_call 91;(with_reducible refine (HNX.o _ r2).mono ?_);rintro e w5 ⟨rfl,r5,o5⟩;have bk5:=bk.grown o5 yji;have b5:=b2.grown o5 yiw;have hO5:=zal hO2 o5;obtain⟨l0,l1,l2,l3⟩:=bk5.cell)
      | (go_at_call 96;(with_reducible refine (zuz q _).mono ?_);rintro e w6 ⟨rfl,hb6⟩;unfold setV;have r6:=r5.stays hb6;have b6:=b5.stays hb6;have hO6:=zay hO5 hb6;obtain⟨m0,m1,m2,m3⟩:=b6.cell;obtain⟨y0,y1,y2,y3⟩:=b6.frozen))
     refine bodyPost_ret (v:=setV (notP q)) ?_ rfl ⟨notP q,st3,rfl,?_,?_,?_⟩
     .unfold setV;simp[results,Tryd.results95,go_sem,m0,m1,m2,m3]
     .exact r6.put4 (Ne.symm hgb) (notP q)
     .exact zdl hO6 (yez _) (notP q)
     .simpa using HRE.o
end
section
attribute [local go_sem ↓] Go.wp_at_zero Go.wp_at_succ
theorem zyj {w:World} {B:Nat} {v:Value} {l:List T} (h:Row w B v l) (hB:B<=w.heap.size) (hl:l.length<=100000) (t:T) (k:Value) (ht:Tree w (fun b=>B<=b∧some b≠v.ownBlock) t k)
 (ty:TypeId) (ad:Addr) (c:Nat) (hc:∀ (j:Nat) u,(zdt t k)[j]?=some u->w.cell? (ad.add j)=some u):
 ∃ v' w',(Builtin.append_ #[54,54] ty #[v,.slice (some ad) 1 c]).run Tryd.prog w = .ok v' w'∧Row w' B v' (l++[t])∧w.grownBy w' v.ownBlock∧B<=w'.heap.size:=by
 obtain⟨ks,h1,h2,h3⟩:=h;obtain⟨i0,hi,hz0,hz1,hz2⟩:=info_parts Tryd.infoNode;obtain⟨v',w',hr,h4,h5,_,h6⟩:=run_append_own_at (P:=Tryd.prog) w B 54 ty 56 i0 _ 8 80 Tryd.underlying54 hi hz0 hz1 hz2 rfl yij v l.length (cellsOf l ks) h2 ad 1 c (zdt t k) rfl hc
  (by
    intro u hu;simp[zdt] at hu;rcases hu with rfl|rfl|rfl|rfl|rfl|rfl|rfl|rfl
    all_goals first | rfl | exact ht.one) yin yie hB
 refine⟨v',w',hr,⟨ks++[k],by simp[h1],?_,fun i t' k' e1 e2=>?_⟩,h5,yfa hB h5.size⟩
 .rw[zk3 l ks t k h1]
  simpa using h4
 .have hkeep:∀ t' k',Tree w (fun b=>B<=b∧some b≠v.ownBlock) t' k'->Tree w' (fun b=>B<=b∧some b≠v'.ownBlock) t' k':=by
   intro t' k' h;refine h.mono fun b hb hlt _=>⟨h5.block b hlt hb.2,hb.1,?_⟩
   rcases h6 with h6|h6
   .rw[h6];exact hb.2
   .rw[h6];simp;omega
  by_cases hi:i<l.length
  .rw[yfb hi] at e1;rw[yfb yie] at e2;exact hkeep _ _ (h3 i t' k' e1 e2)
  .rw[yfc yie] at e1;rw[yfc yie] at e2;have hi':i=l.length:=by
    have:=yf4.1 e1;simp at this;omega
   subst hi';simp[h1] at e1 e2;subst e1 e2;exact hkeep _ _ ht
theorem zg6 {w:World} {ops:Array Oper} {rest:List Oper} {o:Oper} {a:Act} {Q:Exit->Act->World->Prop} (hgd:o.guard=none) (s x:Operand)
 (ho:o.op = .call {callee := .builtin .append,args:=#[s,x],argTypes:=#[54,54]})
 {B:Nat} {v:Value} {l:List T} (hs:a.eval s=v) (h:Row w B v l) (hB:B<=w.heap.size) (hl:l.length<=100000) (t:T) (k:Value) (ht:Tree w (fun b=>B<=b∧some b≠v.ownBlock) t k)
 (ad:Addr) (c:Nat) (hx:a.eval x = .slice (some ad) 1 c) (hc:∀ (j:Nat) u,(zdt t k)[j]?=some u->w.cell? (ad.add j)=some u)
 (hk:∀ v' w',Row w' B v' (l++[t])->w.grownBy w' v.ownBlock->B<=w'.heap.size->wpList Tryd.prog ops Q rest (a.put o.dst v') w'):wpList Tryd.prog ops Q (o::rest) a w:=by
 obtain⟨v',w',hr,h2,h3,h4⟩:=zyj h hB hl t k ht o.type ad c hc;refine wpList_plain hgd fun _ hK=>?_
 unfold Oper.wp execOp;simp only[ho,resolve,invoke,builtin,Sem.run_bind,Sem.run_pure,Result.andThen_ok,ygz,ygo,yh0,hs,hx,hr];exact hK _ _ (hk v' w' h2 h3 h4)
theorem zpv (p:Nat->Bool) (w:World):
 Calls Tryd.prog 94 #[.agg #[.int .u64 (word p 0),.int .u64 (word p 1),.int .u64 (word p 2),.int .u64 (word p 3)]] w fun e w'=>e = .returned (zah (.one p) (.slice none 0 0))∧Below w.heap.size w w':=by
 go_enter Tryd.func94,Tryd.ntmps94;go_wp2;refine bodyPost_ret (v:=zah (.one p) (.slice none 0 0)) ?_ rfl ⟨rfl,((yf6 _ _).alloc (yez _) _).alloc yii _⟩;simp[zah,T.one,T.op,T.set,T.lo,T.hi,results,Tryd.results94,go_sem]
def zxt (w:World) (B:Nat) (t:T) (e:Ending) (w':World):Prop:=∃ k,e = .returned (zah t k)∧Tree w' (fun b=>B<=b) t k∧Below w.heap.size w w'
theorem zrg (w:World) (B:Nat) (op:Int) (v:Value) (l:List T) (h:Row w B v l) (h0:0<l.length):
 Calls Tryd.prog 74 #[.int .i64 op,v] w (zxt w B (T.many op l)):=by
 have ht:=h.tree h0 op za9 0 0;have hh:=h;obtain⟨ks,h1,h2,h3⟩:=h;obtain⟨g,cap,rfl,hB,hg⟩:=h2.form h0
 by_cases hl:l.length=1
 .obtain⟨t,rfl⟩:∃ t,l=[t]:=by
   match l,hl with
   | [t],_=>exact⟨t,rfl⟩
  obtain⟨k,rfl⟩:∃ k,ks=[k]:=by
   match ks,h1 with
   | [k],_=>exact⟨k,rfl⟩
  have hk:=h3 0 t k rfl rfl;obtain⟨A,m,c,rfl⟩:=hk.form;have c0:w.cell? ⟨g,0,none⟩=some (.int .i64 t.op):=h2.cellAt 0 yii;have c1:w.cell? ⟨g,1,none⟩=some (.int .u64 (word t.set 0)):=h2.cellAt 1 yii;have c2:w.cell? ⟨g,2,none⟩=some (.int .u64 (word t.set 1)):=h2.cellAt 2 yii;have c3:w.cell? ⟨g,3,none⟩=some (.int .u64 (word t.set 2)):=h2.cellAt 3 yii;have c4:w.cell? ⟨g,4,none⟩=some (.int .u64 (word t.set 3)):=h2.cellAt 4 yii;have c5:w.cell? ⟨g,5,none⟩=some (.int .i64 t.lo):=h2.cellAt 5 yii;have c6:w.cell? ⟨g,6,none⟩=some (.int .i64 t.hi):=h2.cellAt 6 yii;have c7:w.cell? ⟨g,7,none⟩=some (.slice A m c):=h2.cellAt 7 yii;clear h1 h2 h3 hh hl h0 ht
  show Calls Tryd.prog 74 #[.int .i64 op,.slice (some ⟨g,0,none⟩) 1 cap] w (zxt w B t)
  go_enter Tryd.func74,Tryd.ntmps74;go_wp2;refine bodyPost_ret (v:=zah t (.slice A m c)) ?_ rfl ⟨_,rfl,?_,?_⟩
  .simp[zah,results,Tryd.results74,go_sem]
  .exact (hk.weak fun b hb _=>hb.1).stays ((yf6 _ _).alloc (yez _) _)
  .exact (yf6 _ _).alloc (yez _) _
 .have e:T.many op l = .mk op za9 0 0 l:=by
   unfold T.many
   match l,hl with
   | [],_=>rfl
   | _::_::_,_=>rfl
  rw[e];clear e;have hl':((l.length:Int)==1)=false:=yil;have hl2:(l.length==1)=false:=(by simp[hl]);generalize l.length=n at *;clear h1 h2 h3 hh hl h0;go_enter Tryd.func74,Tryd.ntmps74;go_wp2;refine bodyPost_ret (v:=zah (.mk op za9 0 0 l) (.slice (some ⟨g,0,none⟩) n cap)) ?_ rfl ⟨_,rfl,?_,?_⟩
  .simp[zah,T.op,T.set,T.lo,T.hi,zak,results,Tryd.results74,go_sem]
  .exact ht.stays ((yf6 _ _).alloc (yez _) _)
  .exact (yf6 _ _).alloc (yez _) _
end
end Go.Proofs.YtipfgpfplakhiaaDoor
