import Derived.Test.YtipfgpfplakhiaaTc14
import Derived.Test.YtipfgpfplakhiaaTc26
set_option linter.unusedVariables false
set_option linter.unusedSimpArgs false
set_option maxRecDepth 20000
set_option maxHeartbeats 4000000
namespace Go.Proofs.Ytipfgpfplakhiaa
open Go Go.RowKit
section
attribute [local go_sem ↓] Go.wp_at_zero Go.wp_at_succ
theorem zvr {w:World} {B:Nat} {v:Value} {l:List T} (h:Row w B v l):∀ b,v.ownBlock=some b->B<=b∧b<w.heap.size:=by
 obtain⟨ks,h1,h2,h3⟩:=h;exact h2.lt
theorem zvs {w:World} {B:Nat} {v:Value} {l:List T} (h:Row w B v l):∃ A n c,v = .slice A n c:=by
 obtain⟨ks,h1,h2,h3⟩:=h;rcases h2.2 with ⟨rfl,_⟩|⟨g,cap,cur,rfl,_⟩ <;> exact⟨_,_,_,rfl⟩
theorem zzy (w:World) (B:Nat):Row w B (.slice none 0 0) []:=⟨[],rfl,yhd w B _ 8,fun i t' k' e _=>by simp at e⟩
theorem zie (w:World) (t:T) (k:Value):∀ (j:Nat) u,(zb6 t k)[j]?=some u->(w.alloc (.cells #[.int .i64 t.op,.int .u64 (word t.set 0),.int .u64 (word t.set 1),.int .u64 (word t.set 2),.int .u64 (word t.set 3),.int .i64 t.lo,.int .i64 t.hi,k] 67)).cell? ((⟨w.heap.size,0,none⟩:Addr).add j)=some u:=by
 intro j u hu;have hj:j<8:=by
  have:=ygp.1 hu
  simpa [zb6] using this.1
 have hadd:(⟨w.heap.size,0,none⟩:Addr).add j=⟨w.heap.size,j,none⟩:=by unfold Addr.add;split <;> simp_all
 rw[hadd,cell_of_row _ _ j _ 67 (0,0) (heap_alloc_new w _),←hu];simp[zb6]
theorem zxb {w wx:World} {B:Nat} {v:Value} {l:List T} {t:T} {k:Value} (hrow:Row wx B v l) (hB:B<=wx.heap.size) (ht:Tree w (fun b=>wx.heap.size<=b) t k):Tree w (fun b=>B<=b∧some b≠v.ownBlock) t k:=
 ht.weak fun b hb _=>⟨by omega,fun e=>by have:=zvr hrow b e.symm;omega⟩
def zgz (w:World) (u:T) (e:Ending) (w':World):Prop:=∃ k',e = .returned (zas u k')∧Tree w' (fun b=>w.heap.size<=b) u k'∧Below w.heap.size w w'
def yep (N:Nat):Prop:=∀ (t:T) (w:World) (ok:Nat->Prop) (k:Value),SizeOf.sizeOf t<=N->WF t->Tree w ok t k->Calls Try.prog 42 #[zas t k] w (zgz w (zaq t))
theorem ybk {N:Nat} (ih:yep N) {t:T} {w:World} {ok:Nat->Prop} {k:Value} (hN:SizeOf.sizeOf t<=N+1) (hwf:WF t) (ht:Tree w ok t k) (h4:t.op≠4):
 Calls Try.prog 42 #[zas t k] w (zgz w (zaq t)):=by
 have hflat:zaq t = .mk t.op t.set 0 0 (t.kids.map zaq):=by
  cases t with
  | mk op p lo hi l =>
   have e:op≠4:=h4;rw[zaq,if_neg e,zhm];rfl
 rw[hflat];obtain⟨A,n',c,rfl⟩:=ht.form;obtain⟨hn,hm⟩:=ht.bound;have hlen:=hwf.len;rw[←hn] at hlen;unfold maxLen at hm;have b1:=Box8.new w t (.slice A n' c);have hB:Below w.heap.size w (w.alloc (.cells #[.int .i64 t.op,.int .u64 (word t.set 0),.int .u64 (word t.set 1),.int .u64 (word t.set 2),.int .u64 (word t.set 3),.int .i64 t.lo,.int .i64 t.hi,.slice A n' c] 67)):=(ygr _ _).alloc (ygo _) _;obtain⟨c0,c1,c2,c3,c4,c5,c6,c7⟩:=b1.cell;have hb4:(t.op==4)=false:=(by simp[h4]);unfold zas;have HN:=Zh hn;have HT:=Zh ht;have HWF:=Zh hwf;have IH:=Zh ih;have HB1:=Zh b1;have HHB:=Zh hB;have HSZ:=Zh hN;have HM:=Zh hm;clear hn ih hwf b1 hB ht hN hm h4 hflat;go_enter Try.func42,Try.ntmps42;go_wp2;have hd:(t.op != 4)=true:=(by simp[bne,hb4]);rw[hd];clear hd;go_loopg [3,4] n' (fun m v i wr=>∃ j:Nat,i = .int .i64 (j:Int)∧j<=n'∧m=n'-j∧Row wr (w.heap.size+2) v ((t.kids.take j).map zaq)∧(j=0->v = .slice none 0 0)∧Box8 wr w.heap.size t (.slice A n' c)∧Box8 wr (w.heap.size+1) T.zero (.slice none 0 0)∧Below w.heap.size w wr)
 case atStart=>exact⟨0,rfl,ygy _,rfl,zzy _ _,fun _=>rfl,HB1.o.alloc _,by have h:=Box8.new0 (w.alloc (.cells #[.int .i64 t.op,.int .u64 (word t.set 0),.int .u64 (word t.set 1),.int .u64 (word t.set 2),.int .u64 (word t.set 3),.int .i64 t.lo,.int .i64 t.hi,.slice A n' c] 67));rw[yh0] at h;exact h,HHB.o.alloc HHB.o.size _⟩
 case round =>
  clear c0 c1 c2 c3 c4 c5 c6 c7;obtain⟨j,rfl,hj,hmj,hrow,h0,x1,z1,hW⟩:=hrel;have HMJ:=Zh hmj;obtain⟨c0,c1,c2,c3,c4,c5,c6,c7⟩:=x1.cell;clear hmj;have hg0:w.heap.size+1<wr.heap.size:=z1.lt;have HZ:=Zh z1;clear z1;have HX:=Zh x1;have HROW:=Zh hrow;have HW:=Zh hW;have H0:=Zh h0;clear hrow x1 hW h0
  by_cases hlt:j<n'
  .have hlt':j<t.kids.length:=ykr;obtain⟨g,B,m1,m2,e1,hg1,htk,hcells⟩:=kid8 HT.o j (ygn hlt');subst e1;have hwk:=HWF.o.kid (yhb hlt');have hks:=zcy t j hlt';have htake:(t.kids.take (j+1)).map zaq=(t.kids.take j).map zaq++[zaq (t.kids[j]'hlt')]:=by
    rw[yh2 hlt',yhl];rfl
   generalize t.kids[j]=u at *;have HC:∀ q v,(zb6 u (.slice B m1 m2))[q]?=some v->wr.cell? ⟨g,j*8+q,none⟩=some v:=fun q v h=>by rw[yhz j 8];exact (HW.o.cell (p:=⟨g,8*j+q,none⟩) hg1).trans (hcells q v h)
   have k0:wr.cell? ⟨g,j*8,none⟩=_:=HC 0 _ rfl;have k1:=HC 1 _ rfl;have k2:=HC 2 _ rfl;have k3:=HC 3 _ rfl;have k4:=HC 4 _ rfl;have k5:=HC 5 _ rfl;have k6:=HC 6 _ rfl;have k7:=HC 7 _ rfl;have hk0:=(fun w' (hb:Below wr.heap.size wr w')=>IH.o u w' ok (.slice B m1 m2) (by have:=HSZ.o;omega) hwk ((htk.stays HW.o).stays hb));have hll:((t.kids.take j).map zaq).length<=100000:=yk8;generalize zaq u=fu at *;generalize (t.kids.take j).map zaq=ll at *;have HK:=Zh hk0;have HTAKE:=Zh htake;clear HC hcells htk hks hwk hk0 htake;unfold zgz zas at HK;go_wp2_with (first
    | (go_at_call 42;(with_reducible refine (HK.o _ (ygr _ _)).mono ?_);rintro e w4 ⟨k4,rfl,ht4,hb4⟩;obtain⟨A4,n4,c4',rfl⟩:=ht4.form;have row4:=HROW.o.stays hb4;have ht5:=zxb (B:=w.heap.size+2) HROW.o yjz ht4;have hs4:=hb4.size)
    | (at_builtin;refine zf2 yk5 _ _ yk5 yk5 (row4.alloc _) yk8 hll fu (.slice A4 n4 c4') (ht5.alloc _) ⟨w4.heap.size,0,none⟩ 1 yk5 (zie w4 fu (.slice A4 n4 c4')) ?_;intro v6 w6 row6 o6 hB6)
    | fail)
   have hrow4:=zvr row4;have hg6:w4.grownBy w6 _:=(yjb w4 _ _).trans o6;have hW6:=(gro HW.o hb4).grown hg6 (ygw HW.o.size hs4) (fun q e=>by have:=(hrow4 q e).1;omega);have hx6:=(HX.o.stays hb4).grown hg6 (fun e=>by have:=(hrow4 _ e.symm).1;omega);have hz6:=(HZ.o.stays hb4).grown hg6 (fun e=>by have:=(hrow4 _ e.symm).1;omega);go_roundg (n'-(j+1))
   case measure=>have:=HMJ.o;omega
   case rel=>exact⟨j+1,by go_num,by omega,rfl,by rw[HTAKE.o];exact row6,fun h=>by omega,hx6,hz6,hW6⟩
  .have hjn:j=t.kids.length:=yl9;have hr:=HROW.o;rw[hjn,yhn] at hr;have HR:=Zh hr;obtain⟨z0,z1,z2,z3,z4,z5,z6,z7⟩:=HZ.o.cell;obtain⟨f0,f1,f2,f3,f4,f5,f6,f7⟩:=HZ.o.frozen;have HKN:=Zh hjn;obtain⟨Ar,nr,cr,hf⟩:=zvs HROW.o;subst hf;clear hr hjn;go_wp2;have hz8:=HZ.o.put (t':=T.zero) (k' := .slice none 0 0) (.mk t.op t.set 0 0 (t.kids.map zaq)) (.slice Ar nr cr);have htree:Tree (put8 wr (w.heap.size+1) (.mk t.op t.set 0 0 (t.kids.map zaq)) (.slice Ar nr cr)) (fun b=>w.heap.size<=b) (.mk t.op t.set 0 0 (t.kids.map zaq)) (.slice Ar nr cr):=by
    by_cases h0:t.kids.length=0
    .rw[H0.o (by rw[HKN.o];exact h0)];exact .nil _ (by rw[yiv h0];rfl)
    .have htr:=HR.o.tree (by simpa using Nat.pos_of_ne_zero h0) t.op t.set 0 0;exact (htr.put8 (fun b hb=>by omega)).weak fun b hb _=>by omega
   have hbel:=zcn HW.o (g:=w.heap.size+1) yjz (.mk t.op t.set 0 0 (t.kids.map zaq)) (.slice Ar nr cr);obtain⟨y0,y1,y2,y3,y4,y5,y6,y7⟩:=hz8.cell;refine bodyPost_ret (v:=zas (T.mk t.op t.set 0 0 (t.kids.map zaq)) (.slice Ar nr cr)) ?_ rfl ⟨_,rfl,htree,hbel⟩;unfold put8 at y0 y1 y2 y3 y4 y5 y6 y7;simp only[T.op,T.set,T.lo,T.hi] at y0 y1 y2 y3 y4 y5 y6 y7;simp[zas,T.op,T.set,T.lo,T.hi,results,Try.results42,go_sem,y0,y1,y2,y3,y4,y5,y6,y7]
end
section
attribute [local go_sem ↓] Go.wp_at_zero Go.wp_at_succ
theorem yg9 (w:World) (ok:Nat->Prop) (t u:T) (k k':Value) (hB:ok w.heap.size) (ht:Tree w ok t k) (hu:Tree w ok u k') (op:Int) (p:Nat->Bool) (lo hi:Int):
 Tree (w.alloc (.cells (zb6 t k++zb6 u k').toArray 67)) ok (.mk op p lo hi [t,u]) (.slice (some ⟨w.heap.size,0,none⟩) 2 2):=by
 refine .row (.mk op p lo hi [t,u]) w.heap.size 2 (zb6 t k++zb6 u k').toArray [k,k'] (heap_alloc_new w _) hB rfl yk3 (ygo _) yk6 rfl ?_ fun i t' k'' e1 e2=>?_
 .simp[T.kids,cellsOf,zb6]
 .match i,e1,e2 with
  | 0,e1,e2 =>
   simp[T.kids] at e1 e2;subst e1 e2;exact ht.alloc _
  | 1,e1,e2 =>
   simp[T.kids] at e1 e2;subst e1 e2;exact hu.alloc _
theorem oneG (w:World) (ok:Nat->Prop) (t:T) (k:Value) (hB:ok w.heap.size) (ht:Tree w ok t k) (op:Int) (p:Nat->Bool) (lo hi:Int):
 Tree (w.alloc (.cells (zb6 t k).toArray 67)) ok (.mk op p lo hi [t]) (.slice (some ⟨w.heap.size,0,none⟩) 1 1):=by
 refine .row (.mk op p lo hi [t]) w.heap.size 1 (zb6 t k).toArray [k] (heap_alloc_new w _) hB rfl yk3 (ygo _) yk6 rfl ?_ fun i t' k'' e1 e2=>?_
 .simp[T.kids,cellsOf,zb6]
 .match i,e1,e2 with
  | 0,e1,e2 =>
   simp[T.kids] at e1 e2;subst e1 e2;exact ht.alloc _
def RowK (w:World) (ok:Nat->Prop) (B:Nat) (v:Value) (l:List T):Prop:=
 ∃ ks,ks.length=l.length∧w.ownsRow B 67 8 v l.length (cellsOf l ks)∧∀ (i:Nat) t' k',l[i]?=some t'->ks[i]?=some k'->Tree w (fun b=>ok b∧some b≠v.ownBlock) t' k'
section
variable {w w':World} {ok:Nat->Prop} {B:Nat} {v:Value} {l:List T}
theorem RowK.nil (w:World) (ok:Nat->Prop) (B:Nat):RowK w ok B (.slice none 0 0) []:=⟨[],rfl,yhd w B _ 8,fun i t' k' e _=>by simp at e⟩
theorem RowK.stays (h:RowK w ok B v l) (hb:Below w.heap.size w w'):RowK w' ok B v l:=by
 obtain⟨ks,h1,h2,h3⟩:=h;exact⟨ks,h1,za6 h2 hb,fun i t' k' e1 e2=>(h3 i t' k' e1 e2).stays hb⟩
theorem RowK.alloc (h:RowK w ok B v l) (o:Obj):RowK (w.alloc o) ok B v l:=h.stays ((ygr _ _).alloc (ygo _) _)
theorem RowK.lt (h:RowK w ok B v l):∀ b,v.ownBlock=some b->B<=b∧b<w.heap.size:=by
 obtain⟨ks,h1,h2,h3⟩:=h;exact h2.lt
theorem RowK.form (h:RowK w ok B v l):∃ A n c,v = .slice A n c:=by
 obtain⟨ks,h1,h2,h3⟩:=h;rcases h2.2 with ⟨rfl,_⟩|⟨g,cap,cur,rfl,_⟩ <;> exact⟨_,_,_,rfl⟩
theorem RowK.tree (h:RowK w ok B v l) (hok:∀ b,B<=b->ok b) (h0:0<l.length) (op:Int) (p:Nat->Bool) (lo hi:Int):Tree w ok (.mk op p lo hi l) v:=by
 obtain⟨ks,h1,h2,h3⟩:=h;rcases h2.2 with ⟨rfl,h⟩|⟨g,cap,cur,rfl,hB,hh,hc,hm,hs,ht⟩
 .omega
 .exact .row (.mk op p lo hi l) g cap cur ks hh (hok _ hB) h1 yjz hc hm hs ht fun i t' k' e1 e2=>(h3 i t' k' e1 e2).weak fun b hb _=>hb.1
theorem zvq (h:RowK w ok B v l) (hB:B<=w.heap.size) (hl:l.length<=100000) (t:T) (k:Value) (ht:Tree w (fun b=>ok b∧some b≠v.ownBlock) t k)
 (ty:TypeId) (ad:Addr) (c:Nat) (hc:∀ (j:Nat) u,(zb6 t k)[j]?=some u->w.cell? (ad.add j)=some u):
 ∃ v' w',(Builtin.append_ #[65,65] ty #[v,.slice (some ad) 1 c]).run Try.prog w = .ok v' w'∧RowK w' ok B v' (l++[t])∧w.grownBy w' v.ownBlock∧B<=w'.heap.size:=by
 obtain⟨ks,h1,h2,h3⟩:=h;obtain⟨i0,hi,hz0,hz1,hz2⟩:=info_parts Try.infoNode;obtain⟨v',w',hr,h4,h5,_,h6⟩:=run_append_own_at (P:=Try.prog) w B 65 ty 67 i0 _ 8 80 Try.underlying65 hi hz0 hz1 hz2 rfl yk6 v l.length (cellsOf l ks) h2 ad 1 c (zb6 t k) rfl hc
  (by
    intro u hu;simp[zb6] at hu;rcases hu with rfl|rfl|rfl|rfl|rfl|rfl|rfl|rfl
    all_goals first | rfl | exact ht.one) yka yjz hB
 refine⟨v',w',hr,⟨ks++[k],by simp[h1],?_,fun i t' k' e1 e2=>?_⟩,h5,ygw hB h5.size⟩
 .rw[zgy l ks t k h1]
  simpa using h4
 .have hkeep:∀ t' k',Tree w (fun b=>ok b∧some b≠v.ownBlock) t' k'->Tree w' (fun b=>ok b∧some b≠v'.ownBlock) t' k':=by
   intro t' k' h;refine h.mono fun b hb hlt _=>⟨h5.block b hlt hb.2,hb.1,?_⟩
   rcases h6 with h6|h6
   .rw[h6];exact hb.2
   .rw[h6];simp;omega
  by_cases hi:i<l.length
  .rw[ygv hi] at e1;rw[ygv yjz] at e2;exact hkeep _ _ (h3 i t' k' e1 e2)
  .rw[ygx yjz] at e1;rw[ygx yjz] at e2;have hi':i=l.length:=by
    have:=ygp.1 e1;simp at this;omega
   subst hi';simp[h1] at e1 e2;subst e1 e2;exact hkeep _ _ ht
theorem zil {ops:Array Oper} {rest:List Oper} {o:Oper} {a:Act} {Q:Exit->Act->World->Prop} (hgd:o.guard=none) (s x:Operand)
 (ho:o.op = .call {callee := .builtin .append,args:=#[s,x],argTypes:=#[65,65]})
 (hs:a.eval s=v) (h:RowK w ok B v l) (hB:B<=w.heap.size) (hl:l.length<=100000) (t:T) (k:Value) (ht:Tree w (fun b=>ok b∧some b≠v.ownBlock) t k)
 (ad:Addr) (c:Nat) (hx:a.eval x = .slice (some ad) 1 c) (hc:∀ (j:Nat) u,(zb6 t k)[j]?=some u->w.cell? (ad.add j)=some u)
 (hk:∀ v' w',RowK w' ok B v' (l++[t])->w.grownBy w' v.ownBlock->B<=w'.heap.size->wpList Try.prog ops Q rest (a.put o.dst v') w'):wpList Try.prog ops Q (o::rest) a w:=by
 obtain⟨v',w',hr,h2,h3,h4⟩:=zvq h hB hl t k ht o.type ad c hc;refine wpList_plain hgd fun _ hK=>?_
 unfold Oper.wp execOp;simp only[ho,resolve,invoke,builtin,Sem.run_bind,Sem.run_pure,Result.andThen_ok,yi4,yhw,yia,hs,hx,hr];exact hK _ _ (hk v' w' h2 h3 h4)
end
structure RepIn (w:World) (g4:Nat) (t fu r:T) (ka kf kr:Value) (wr:World):Prop where
 n:Box8 wr w.heap.size t ka
 res:Box8 wr (w.heap.size+1) T.zero (.slice none 0 0)
 k:Box8 wr g4 fu kf
 rest:Box8 wr (g4+1) r kr
 kt:Tree wr (fun b=>w.heap.size+2<=b∧b<g4) fu kf
 rt:Tree wr (fun b=>w.heap.size+2<=b∧b≠g4∧b≠g4+1) r kr
 g:w.heap.size+2<=g4
 out:Below w.heap.size w wr
theorem yg7 (w:World) (g:Nat) (t:T) (k:Value):(put8 w g t k).heap.size=w.heap.size:=by simp[put8,World.setCell]
theorem RepIn.more {w wr:World} {g4:Nat} {t fu r:T} {ka kf kr:Value} (h:RepIn w g4 t fu r ka kf kr wr):
 RepIn w g4 t fu (.mk 5 zaa 0 0 [.mk 2 zaa 0 0 [fu,r]]) ka kf (.slice (some ⟨wr.heap.size+1,0,none⟩) 1 1)
  (((put8 wr (g4+1) (.mk 5 zaa 0 0 [.mk 2 zaa 0 0 [fu,r]]) (.slice (some ⟨wr.heap.size+1,0,none⟩) 1 1)).alloc (.cells (zb6 fu kf++zb6 r kr).toArray 67)).alloc
    (.cells (zb6 (.mk 2 zaa 0 0 [fu,r]) (.slice (some ⟨wr.heap.size,0,none⟩) 2 2)).toArray 67)):=by
 have hg:=h.g;have hl:=h.rest.lt;have hk:Tree wr (fun b=>w.heap.size+2<=b∧b≠g4∧b≠g4+1) fu kf:=h.kt.weak fun b hb _=>by omega
 obtain⟨W,hW⟩:∃ W,put8 wr (g4+1) (.mk 5 zaa 0 0 [.mk 2 zaa 0 0 [fu,r]]) (.slice (some ⟨wr.heap.size+1,0,none⟩) 1 1)=W:=⟨_,rfl⟩;have hs:W.heap.size=wr.heap.size:=(by rw[←hW];exact yg7 _ _ _ _);have n1:Box8 W w.heap.size t ka:=(by rw[←hW];exact h.n.putFar yjz);have n2:Box8 W (w.heap.size+1) T.zero (.slice none 0 0):=(by rw[←hW];exact h.res.putFar yjz);have n3:Box8 W g4 fu kf:=(by rw[←hW];exact h.k.putFar yjz);have n4:Box8 W (g4+1) (.mk 5 zaa 0 0 [.mk 2 zaa 0 0 [fu,r]]) (.slice (some ⟨wr.heap.size+1,0,none⟩) 1 1):=(by rw[←hW];exact h.rest.put (t':=T.zero) (k' := .slice none 0 0) _ _);have n5:Tree W (fun b=>w.heap.size+2<=b∧b<g4) fu kf:=(by rw[←hW];exact h.kt.put8 (fun b hb=>by omega));have n6:Tree W (fun b=>w.heap.size+2<=b∧b≠g4∧b≠g4+1) fu kf:=(by rw[←hW];exact hk.put8 (fun b hb=>by omega));have n7:Tree W (fun b=>w.heap.size+2<=b∧b≠g4∧b≠g4+1) r kr:=(by rw[←hW];exact h.rt.put8 (fun b hb=>by omega));have n8:Below w.heap.size w W:=(by rw[←hW];exact zcn h.out yjz _ _);rw[hW];have h1:=yg9 W _ fu r kf kr (show _ by omega) n6 n7 2 zaa 0 0;have h2:=oneG _ _ (.mk 2 zaa 0 0 [fu,r]) _ (show _ by simp only[yh0];omega) h1 5 zaa 0 0;rw[yh0,hs] at h2;exact⟨(n1.alloc _).alloc _,(n2.alloc _).alloc _,(n3.alloc _).alloc _,(n4.alloc _).alloc _,(n5.alloc _).alloc _,h2,hg,
  (n8.alloc n8.size _).alloc (by simp;exact yjx n8.size) _⟩
structure RepJn (w:World) (G g4:Nat) (t fu r:T) (ka kf kr v:Value) (l:List T) (wr:World):Prop where
 n:Box8 wr w.heap.size t ka
 res:Box8 wr (w.heap.size+1) T.zero (.slice none 0 0)
 k:Box8 wr g4 fu kf
 rest:Box8 wr (g4+1) r kr
 kt:Tree wr (fun b=>w.heap.size+2<=b∧b<G) fu kf
 rt:Tree wr (fun b=>w.heap.size+2<=b∧b<G) r kr
 g:w.heap.size+2<=g4∧g4+2<=G
 row:RowK wr (fun b=>w.heap.size+2<=b) G v l
 gw:G<=wr.heap.size
 out:Below w.heap.size w wr
theorem RepIn.jn {w wr:World} {g4:Nat} {t fu r:T} {ka kf kr:Value} (h:RepIn w g4 t fu r ka kf kr wr):RepJn w wr.heap.size g4 t fu r ka kf kr (.slice none 0 0) [] wr:=by
 have hg:=h.g;have hl:=h.rest.lt;exact⟨h.n,h.res,h.k,h.rest,h.kt.weak fun b hb _=>by omega,h.rt.weak fun b hb hb2=>by omega,⟨hg,by omega⟩,.nil _ _ _,ygo _,h.out⟩
theorem RepJn.push {w wr w6:World} {G g4:Nat} {t fu r:T} {ka kf kr v v6:Value} {l l6:List T} {o:Obj} (h:RepJn w G g4 t fu r ka kf kr v l wr)
 (hrow:RowK w6 (fun b=>w.heap.size+2<=b) G v6 l6) (h6:(wr.alloc o).grownBy w6 v.ownBlock):RepJn w G g4 t fu r ka kf kr v6 l6 w6:=by
 have hg:=h.g;have hgw:=h.gw;have hl:=h.row.lt;have ho:∀ b,v.ownBlock=some b->G<=b:=fun b e=>(hl b e).1
 have hne:∀ b,b<G->some b≠v.ownBlock:=fun b hb e=>by have:=ho b e.symm;omega
 refine⟨(h.n.alloc o).grown h6 (hne _ yjz),(h.res.alloc o).grown h6 (hne _ yjz),(h.k.alloc o).grown h6 (hne _ yjz),(h.rest.alloc o).grown h6 (hne _ yjz),
  (h.kt.alloc o).grown h6 (fun b hb=>hne b hb.2),(h.rt.alloc o).grown h6 (fun b hb=>hne b hb.2),hg,hrow,?_,?_⟩
 .have:=h6.size;rw[yh0] at this;omega
 .exact (h.out.alloc h.out.size o).grown h6 (by rw[yh0];exact yjx h.out.size) (fun q e=>by have:=ho q e;omega)
theorem ybl {N:Nat} (ih:yep N) {t u:T} {w:World} {ok:Nat->Prop} {k:Value} (hN:SizeOf.sizeOf t<=N+1) (hwk:WF u) (ht:Tree w ok t k) (h4:t.op=4) (hku:t.kids=[u]) (hlo:0<=t.lo) (hlh:t.lo<=t.hi) (hhi:t.hi<=32):
 Calls Try.prog 42 #[zas t k] w (zgz w (.mk 2 zaa 0 0 (List.replicate t.lo.toNat (zaq u)++[zdq (zaq u) (t.hi-t.lo).toNat]))):=by
 obtain⟨A,n',c,rfl⟩:=ht.form;have b1:=Box8.new w t (.slice A n' c);have hB:Below w.heap.size w (w.alloc (.cells #[.int .i64 t.op,.int .u64 (word t.set 0),.int .u64 (word t.set 1),.int .u64 (word t.set 2),.int .u64 (word t.set 3),.int .i64 t.lo,.int .i64 t.hi,.slice A n' c] 67)):=(ygr _ _).alloc (ygo _) _;have b2:=Box8.new0 (w.alloc (.cells #[.int .i64 t.op,.int .u64 (word t.set 0),.int .u64 (word t.set 1),.int .u64 (word t.set 2),.int .u64 (word t.set 3),.int .i64 t.lo,.int .i64 t.hi,.slice A n' c] 67));have b3:=b1.alloc (.cells #[.int .i64 0,.int .u64 0,.int .u64 0,.int .u64 0,.int .u64 0,.int .i64 0,.int .i64 0,.slice none 0 0] 67);have hB2:=hB.alloc hB.size (.cells #[.int .i64 0,.int .u64 0,.int .u64 0,.int .u64 0,.int .u64 0,.int .i64 0,.int .i64 0,.slice none 0 0] 67);obtain⟨hn,hm⟩:=ht.bound;have hn1:n'=1:=(by rw[hn,hku];rfl);obtain⟨g,B,m1,m2,e1,hg1,htk,hcells⟩:=kid8 ht 0 (u:=u) (by rw[hku];rfl);subst e1 hn1;have hks:SizeOf.sizeOf u<SizeOf.sizeOf t:=(by have h:=zcy t 0 (by rw[hku];simp);simpa [hku] using h);obtain⟨c0,c1,c2,c3,c4,c5,c6,c7⟩:=b3.cell;have hb4:(t.op==4)=true:=(by simp[h4]);have hd4:(t.op != 4)=false:=(by simp[h4]);have HC:∀ q v,(zb6 u (.slice B m1 m2))[q]?=some v->((w.alloc (.cells #[.int .i64 t.op,.int .u64 (word t.set 0),.int .u64 (word t.set 1),.int .u64 (word t.set 2),.int .u64 (word t.set 3),.int .i64 t.lo,.int .i64 t.hi,.slice (some ⟨g,0,none⟩) 1 c] 67)).alloc (.cells #[.int .i64 0,.int .u64 0,.int .u64 0,.int .u64 0,.int .u64 0,.int .i64 0,.int .i64 0,.slice none 0 0] 67)).cell? ⟨g,q,none⟩=some v:=fun q v h=>by
  have:=(hB2.cell (p:=⟨g,8*0+q,none⟩) hg1).trans (hcells q v h)
  simpa using this
 have k0:((w.alloc (.cells #[.int .i64 t.op,.int .u64 (word t.set 0),.int .u64 (word t.set 1),.int .u64 (word t.set 2),.int .u64 (word t.set 3),.int .i64 t.lo,.int .i64 t.hi,.slice (some ⟨g,0,none⟩) 1 c] 67)).alloc (.cells #[.int .i64 0,.int .u64 0,.int .u64 0,.int .u64 0,.int .u64 0,.int .i64 0,.int .i64 0,.slice none 0 0] 67)).cell? ⟨g,0,none⟩=_:=HC 0 _ rfl;have k1:=HC 1 _ rfl;have k2:=HC 2 _ rfl;have k3:=HC 3 _ rfl;have k4:=HC 4 _ rfl;have k5:=HC 5 _ rfl;have k6:=HC 6 _ rfl;have k7:=HC 7 _ rfl;have HK:=Zh (ih u ((w.alloc (.cells #[.int .i64 t.op,.int .u64 (word t.set 0),.int .u64 (word t.set 1),.int .u64 (word t.set 2),.int .u64 (word t.set 3),.int .i64 t.lo,.int .i64 t.hi,.slice (some ⟨g,0,none⟩) 1 c] 67)).alloc (.cells #[.int .i64 0,.int .u64 0,.int .u64 0,.int .u64 0,.int .u64 0,.int .i64 0,.int .i64 0,.slice none 0 0] 67)) ok (.slice B m1 m2) yjz hwk (htk.stays hB2));have HX:=Zh b3;have HZ:=Zh b2;have HB2:=Zh hB2;generalize zaq u=fu at *;unfold zgz zas at HK;have H4:=Zh h4;clear HC hcells htk hwk b1 b2 b3 hB hB2 ht hN hm hn ih h4;unfold zas;go_enter Try.func42,Try.ntmps42;go_wp2_with (first
  | (go_at_call 42;(with_reducible refine HK.o.mono ?_);rintro e w4 ⟨kf,rfl,htf,hb4'⟩;obtain⟨Ak,nk,ck,rfl⟩:=htf.form;have hx4:=HX.o.stays hb4';have hz4:=HZ.o.stays hb4';obtain⟨d0,d1,d2,d3,d4,d5,d6,d7⟩:=hx4.cell;have hs4:=hb4'.size;have lx4:w.heap.size<w4.heap.size:=hx4.lt;have lz4:w.heap.size+1<w4.heap.size:=by simpa using hz4.lt)
  | fail)
 have hs4':w.heap.size+2<=w4.heap.size:=yjz;have HX4:=Zh hx4;have HZ4:=Zh hz4;have HTF:=Zh (htf.weak (ok':=fun b=>w.heap.size+2<=b∧b<w4.heap.size) fun b hb hl=>by simp at hb;omega);have HB4:=Zh (gro HB2.o hb4');have hd2:((t.hi-t.lo).toNat:Int)=t.hi-t.lo:=yjz;generalize (t.hi-t.lo).toNat=d at *;obtain⟨L,hL⟩:∃ L:Nat,t.lo=L:=⟨t.lo.toNat,by omega⟩;have hH:t.hi=((L+d:Nat):Int):=yjz;have HL:=Zh hL;have HH:=Zh hH;have hLd:L+d<=32:=yjz;have hLn:t.lo.toNat=L:=yjz;have HLN:=Zh hLn;clear hx4 hz4 htf hb4' HX HZ HB2 HK hd2 hhi hlo hlh hL hH hLn c0 c1 c2 c3 c4 c5 c6 c7 k0 k1 k2 k3 k4 k5 k6 k7 d0 d1 d2 d3 d4 d5 d6 d7 hb4 hd4;go_loopg [7] d (fun m i wr=>∃ j A3 n3 c3,i = .int .i64 ((L+j:Nat):Int)∧j<=d∧m=d-j∧RepIn w w4.heap.size t fu (zdq fu j) (.slice (some ⟨g,0,none⟩) 1 c) (.slice Ak nk ck) (.slice A3 n3 c3) wr)
 case atStart =>
  have h1:=Box8.new w4 fu (.slice Ak nk ck);have h2:=Box8.new (w4.alloc (.cells #[.int .i64 fu.op,.int .u64 (word fu.set 0),.int .u64 (word fu.set 1),.int .u64 (word fu.set 2),.int .u64 (word fu.set 3),.int .i64 fu.lo,.int .i64 fu.hi,.slice Ak nk ck] 67)) (.mk 2 zaa 0 0 []) (.slice none 0 0);simp only[T.op,T.set,T.lo,T.hi,zah,yh0] at h2;exact⟨0,none,0,0,by first | rfl | simp[HL.o],ygy _,rfl,(HX4.o.alloc _).alloc _,by simpa using (HZ4.o.alloc _).alloc _,h1.alloc _,h2,(HTF.o.alloc _).alloc _,.nil _ rfl,hs4',(HB4.o.alloc HB4.o.size _).alloc (by simp;exact yjx HB4.o.size) _⟩
 case round =>
  obtain⟨j,A3,n3,c3,rfl,hj,hmj,hin⟩:=hrel;have HMJ:=Zh hmj;obtain⟨c0,c1,c2,c3',c4,c5,c6,c7⟩:=hin.n.cell;rw[HH.o] at c6;clear hmj c0 c1 c2 c3' c4 c5 c7;have HIN:=Zh hin;have hk4:w4.heap.size<wr.heap.size:=hin.k.lt;have hr4:w4.heap.size+1<wr.heap.size:=hin.rest.lt
  by_cases hlt:j<d
  .obtain⟨k0,k1,k2,k3,k4,k5,k6,k7⟩:=hin.k.cell;obtain⟨r0,r1,r2,r3,r4,r5,r6,r7⟩:=hin.rest.cell;obtain⟨f0,f1,f2,f3,f4,f5,f6,f7⟩:=hin.rest.frozen;have hmore:=hin.more;have e:(.mk 5 zaa 0 0 [.mk 2 zaa 0 0 [fu,zdq fu j]]:T)=zdq fu (j+1):=rfl;have hne:w4.heap.size≠w4.heap.size+1:=yjz;generalize hr:zdq fu j=r at *;have HM:=Zh hmore;have HE:=Zh e;clear hin hmore e hr;go_wp2;go_roundg (d-(j+1))
   case measure=>have:=HMJ.o;omega
   case rel =>
    have h:=HM.o;unfold put8 zb6 at h;simp only[T.op,T.set,T.lo,T.hi,zah] at h;exact⟨j+1,some ⟨wr.heap.size+1,0,none⟩,1,1,by go_num,by omega,rfl,by rw[←HE.o];exact h⟩
  .have hjd:j=d:=yjz;subst hjd;have hjn:=hin.jn;have HJ:=Zh hjn;obtain⟨G,hG⟩:∃ G,wr.heap.size=G:=⟨_,rfl⟩;rw[hG] at HJ;generalize hr:zdq fu j=r at *;have HR:=Zh hr;clear hin hjn HMJ HX4 HZ4 HTF HB4 HIN hr hG hlt hj;go_wp2;go_loopg [3,8] L (fun m v i wr=>∃ q:Nat,i = .int .i64 (q:Int)∧q<=L∧m=L-q∧RepJn w G w4.heap.size t fu r (.slice (some ⟨g,0,none⟩) 1 c) (.slice Ak nk ck) (.slice A3 n3 c3) v (List.replicate q fu) wr)
   case atStart=>exact⟨0,rfl,ygy _,rfl,HJ.o⟩
   case round =>
    obtain⟨q,rfl,hq,hmq,hjn⟩:=hrel;have HMQ:=Zh hmq;obtain⟨A5,n5,m5,hf⟩:=hjn.row.form;subst hf;obtain⟨c0,c1,c2,c3',c4,c5,c6,c7⟩:=hjn.n.cell;rw[HL.o] at c5;clear hmq c0 c1 c2 c3' c4 c6 c7;have hk4:w4.heap.size<wr.heap.size:=hjn.k.lt;have hr4:w4.heap.size+1<wr.heap.size:=hjn.rest.lt;have hz1:w.heap.size+1<wr.heap.size:=hjn.res.lt;have hgw:=hjn.gw;have hg2:=hjn.g.1;have hg3:=hjn.g.2;have hw1:=hjn.row.lt;have hkt:Tree wr (fun b=>w.heap.size+2<=b∧some b≠(Value.slice A5 n5 m5).ownBlock) fu (.slice Ak nk ck):=hjn.kt.weak fun b hb _=>⟨hb.1,fun e=>by have:=hw1 b e.symm;omega⟩
    have hrt:Tree wr (fun b=>w.heap.size+2<=b∧some b≠(Value.slice A5 n5 m5).ownBlock) r (.slice A3 n3 c3):=hjn.rt.weak fun b hb _=>⟨hb.1,fun e=>by have:=hw1 b e.symm;omega⟩
    have HJ2:=Zh hjn;have HKT:=Zh hkt;have HRT:=Zh hrt;obtain⟨k0,k1,k2,k3,k4,k5,k6,k7⟩:=hjn.k.cell;obtain⟨r0,r1,r2,r3,r4,r5,r6,r7⟩:=hjn.rest.cell;clear hjn hkt hrt hw1 hg2 hg3 hgw
    by_cases hlt:q<L
    .clear r0 r1 r2 r3 r4 r5 r6 r7;go_wp2_with (first
      | (at_builtin;refine zil yk5 _ _ yk5 yk5 (HJ2.o.row.alloc _) (by have:=HJ2.o.gw;simp;omega) yk8 fu (.slice Ak nk ck) (HKT.o.alloc _) ⟨wr.heap.size,0,none⟩ 1 yk5 (zie wr fu (.slice Ak nk ck)) ?_;intro v6 w6 row6 o6 hB6)
      | fail)
     have hp:=HJ2.o.push row6 o6;go_roundg (L-(q+1))
     case measure=>have:=HMQ.o;omega
     case rel=>exact⟨q+1,by go_num,by omega,rfl,by rw[List.replicate_succ'];exact hp⟩
    .have hqL:q=L:=yjz;subst hqL;clear k0 k1 k2 k3 k4 k5 k6 k7;go_wp2_with (first
      | (at_builtin;refine zil yk5 _ _ yk5 yk5 (HJ2.o.row.alloc _) (by have:=HJ2.o.gw;simp;omega) yk8 r (.slice A3 n3 c3) (HRT.o.alloc _) ⟨wr.heap.size,0,none⟩ 1 yk5 (zie wr r (.slice A3 n3 c3)) ?_;intro v6 w6 row6 o6 hB6;obtain⟨A6,n6,m6,hf6⟩:=row6.form;subst hf6;have hp:=HJ2.o.push row6 o6;have HP:=Zh hp;obtain⟨z0,z1,z2,z3,z4,z5,z6,z7⟩:=hp.res.cell;obtain⟨f0,f1,f2,f3,f4,f5,f6,f7⟩:=hp.res.frozen;have hz6:=hp.res.lt;clear hp)
      | fail)
     have hp:=HP.o;have hz8:=hp.res.put (t':=T.zero) (k' := .slice none 0 0) (.mk 2 zaa 0 0 (List.replicate q fu++[r])) (.slice A6 n6 m6);have htr:=hp.row.tree (fun b hb=>by have:=hp.g;omega) yk3 2 zaa 0 0;have htree:Tree (put8 w6 (w.heap.size+1) (.mk 2 zaa 0 0 (List.replicate q fu++[r])) (.slice A6 n6 m6)) (fun b=>w.heap.size<=b) (.mk 2 zaa 0 0 (List.replicate q fu++[r])) (.slice A6 n6 m6):=(htr.put8 (fun b hb=>by omega)).weak fun b hb _=>by omega
     have hbel:=zcn hp.out (g:=w.heap.size+1) yjz (.mk 2 zaa 0 0 (List.replicate q fu++[r])) (.slice A6 n6 m6);obtain⟨y0,y1,y2,y3,y4,y5,y6,y7⟩:=hz8.cell;unfold put8 at htree hbel y0 y1 y2 y3 y4 y5 y6 y7;simp only[T.op,T.set,T.lo,T.hi,zah] at htree hbel y0 y1 y2 y3 y4 y5 y6 y7;rw[←HLN.o] at htree;refine bodyPost_ret (v:=zas (T.mk 2 zaa 0 0 (List.replicate q fu++[r])) (.slice A6 n6 m6)) ?_ rfl ⟨_,rfl,htree,?_⟩
     .simp[zas,T.op,T.set,T.lo,T.hi,zah,results,Try.results42,go_sem,y0,y1,y2,y3,y4,y5,y6,y7]
     .exact hbel
theorem ybm:∀ N,yep N:=by
 intro N;induction N with
 | zero=>intro t w ok k h;obtain⟨op,p,lo,hi,l⟩:=t;simp at h
 | succ N ih =>
  intro t w ok k hN hwf ht
  by_cases h4:t.op=4
  .cases hwf with
   | one p=>cases h4
   | cat l h2 hNl h=>cases h4
   | alt l h2 hNl h=>cases h4
   | rep m n u h0 h1 h2 h3 hu =>
    have e:zaq (.mk 4 zaa m n [u]) = .mk 2 zaa 0 0 (List.replicate m.toNat (zaq u)++[zdq (zaq u) (n-m).toNat]):=(by simp[zaq,zhn]);rw[e];exact ybl (t := .mk 4 zaa m n [u]) (u:=u) ih hN hu ht rfl rfl (by simp only[T.lo];omega) (by simp only[T.lo,T.hi];omega) (by simp only[T.hi];omega)
  .exact ybk ih hN hwf ht h4
theorem yfl {t:T} {w:World} {ok:Nat->Prop} {k:Value} (hwf:WF t) (ht:Tree w ok t k):Calls Try.prog 42 #[zas t k] w (zgz w (zaq t)):=
 ybm _ t w ok k (ygo _) hwf ht
end
end Go.Proofs.Ytipfgpfplakhiaa
