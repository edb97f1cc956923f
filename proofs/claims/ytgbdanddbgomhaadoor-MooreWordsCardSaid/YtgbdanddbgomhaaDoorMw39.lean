import Derived.Test.YtgbdanddbgomhaaDoorMw24
import Derived.Test.YtgbdanddbgomhaaDoorMw36
set_option linter.unusedVariables false
set_option linter.unusedSimpArgs false
namespace Go.Proofs.YtgbdanddbgomhaaDoor
open Go Go.RowKit
section
attribute [local go_sem ↓] Go.wp_at_zero Go.wp_at_succ
theorem zpg {w:World} {B:Nat} {v:Value} {l:List T} (h:Row w B v l):∀ b,v.ownBlock=some b->B<=b∧b<w.heap.size:=by
 obtain⟨ks,h1,h2,h3⟩:=h;exact h2.lt
theorem zph {w:World} {B:Nat} {v:Value} {l:List T} (h:Row w B v l):∃ A n c,v = .slice A n c:=by
 obtain⟨ks,h1,h2,h3⟩:=h;rcases h2.2 with ⟨rfl,_⟩|⟨g,cap,cur,rfl,_⟩ <;> exact⟨_,_,_,rfl⟩
theorem zsv (w:World) (B:Nat):Row w B (.slice none 0 0) []:=⟨[],rfl,World.ownsRow_nil w B _ 8,fun i t' k' e _=>by simp at e⟩
theorem zee (w:World) (t:T) (k:Value):∀ (j:Nat) u,(nodeC t k)[j]?=some u->(w.alloc (.cells #[.int .i64 t.op,.int .u64 (word t.set 0),.int .u64 (word t.set 1),.int .u64 (word t.set 2),.int .u64 (word t.set 3),.int .i64 t.lo,.int .i64 t.hi,k] 29)).cell? ((⟨w.heap.size,0,none⟩:Addr).add j)=some u:=by
 intro j u hu;have hj:j<8:=by
   have:=List.getElem?_eq_some_iff.1 hu
   simpa [nodeC] using this.1
 have hadd:(⟨w.heap.size,0,none⟩:Addr).add j=⟨w.heap.size,j,none⟩:=by unfold Addr.add;split <;> simp_all
 rw[hadd,cell_of_row _ _ j _ 29 (0,0) (heap_alloc_new w _),←hu];simp[nodeC]
theorem zqw {w wx:World} {B:Nat} {v:Value} {l:List T} {t:T} {k:Value} (hrow:Row wx B v l) (hB:B<=wx.heap.size) (ht:Tree w (fun b=>wx.heap.size<=b) t k):Tree w (fun b=>B<=b∧some b≠v.ownBlock) t k:=
 ht.weak fun b hb _=>⟨by omega,fun e=>by have:=zpg hrow b e.symm;omega⟩
def RetFlat (w:World) (u:T) (e:Ending) (w':World):Prop:=∃ k',e = .returned (nodeP u k')∧Tree w' (fun b=>w.heap.size<=b) u k'∧Below w.heap.size w w'
def FlatF (N:Nat):Prop:=∀ (t:T) (w:World) (ok:Nat->Prop) (k:Value),SizeOf.sizeOf t<=N->WF t->Tree w ok t k->Calls Tryd.prog 75 #[nodeP t k] w (RetFlat w (flatT t))
set_option maxRecDepth 20000 in
set_option maxHeartbeats 4000000 in
theorem ztw {N:Nat} (ih:FlatF N) {t:T} {w:World} {ok:Nat->Prop} {k:Value} (hN:SizeOf.sizeOf t<=N+1) (hwf:WF t) (ht:Tree w ok t k) (h4:t.op≠4):
   Calls Tryd.prog 75 #[nodeP t k] w (RetFlat w (flatT t)):=by
 have hflat:flatT t = .mk t.op t.set 0 0 (t.kids.map flatT):=by
   cases t with
   | mk op p lo hi l =>
     have e:op≠4:=h4;rw[flatT,if_neg e,zdy];rfl
 rw[hflat];obtain⟨A,n',c,rfl⟩:=ht.form;obtain⟨hn,hm⟩:=ht.bound;have hlen:=hwf.len;rw[←hn] at hlen;unfold maxLen at hm;have b1:=Box8.new w t (.slice A n' c);have hB:Below w.heap.size w (w.alloc (.cells #[.int .i64 t.op,.int .u64 (word t.set 0),.int .u64 (word t.set 1),.int .u64 (word t.set 2),.int .u64 (word t.set 3),.int .i64 t.lo,.int .i64 t.hi,.slice A n' c] 29)):=(Below.refl _ _).alloc (Nat.le_refl _) _;obtain⟨c0,c1,c2,c3,c4,c5,c6,c7⟩:=b1.cell;have hb4:(t.op==4)=false:=(by simp[h4]);unfold nodeP;have HN:=Zh hn;have HT:=Zh ht;have HWF:=Zh hwf;have IH:=Zh ih;have HB1:=Zh b1;have HHB:=Zh hB;have HSZ:=Zh hN;have HM:=Zh hm;clear hn ih hwf b1 hB ht hN hm h4 hflat;go_enter Tryd.func75,Tryd.ntmps75;go_wp2;have hd:(t.op != 4)=true:=(by simp[bne,hb4]);rw[hd];clear hd;go_loopg [3,4] n' (fun m v i wr=>∃ j:Nat,i = .int .i64 (j:Int)∧j<=n'∧m=n'-j∧Row wr (w.heap.size+2) v ((t.kids.take j).map flatT)∧(j=0->v = .slice none 0 0)∧Box8 wr w.heap.size t (.slice A n' c)∧Box8 wr (w.heap.size+1) T.zero (.slice none 0 0)∧Below w.heap.size w wr)
 case atStart=>exact⟨0,rfl,Nat.zero_le _,rfl,zsv _ _,fun _=>rfl,HB1.out.alloc _,by have h:=Box8.new0 (w.alloc (.cells #[.int .i64 t.op,.int .u64 (word t.set 0),.int .u64 (word t.set 1),.int .u64 (word t.set 2),.int .u64 (word t.set 3),.int .i64 t.lo,.int .i64 t.hi,.slice A n' c] 29));rw[World.size_alloc] at h;exact h,HHB.out.alloc HHB.out.size _⟩
 case round =>
   clear c0 c1 c2 c3 c4 c5 c6 c7;obtain⟨j,rfl,hj,hmj,hrow,h0,x1,z1,hW⟩:=hrel;have HMJ:=Zh hmj;obtain⟨c0,c1,c2,c3,c4,c5,c6,c7⟩:=x1.cell;clear hmj;have hg0:w.heap.size+1<wr.heap.size:=z1.lt;have HZ:=Zh z1;clear z1;have HX:=Zh x1;have HROW:=Zh hrow;have HW:=Zh hW;have H0:=Zh h0;clear hrow x1 hW h0
   by_cases hlt:j<n'
   . have hlt':j<t.kids.length:=(by rw[←HN.out];exact hlt);obtain⟨g,B,m1,m2,e1,hg1,htk,hcells⟩:=kid8 HT.out j (List.getElem?_eq_getElem hlt');subst e1;have hwk:=HWF.out.kid (List.getElem_mem hlt');have hks:=zav t j hlt';have htake:(t.kids.take (j+1)).map flatT=(t.kids.take j).map flatT++[flatT (t.kids[j]'hlt')]:=by
       rw[List.take_succ_eq_append_getElem hlt',List.map_append];rfl
     generalize t.kids[j]=u at *;have HC:∀ q v,(nodeC u (.slice B m1 m2))[q]?=some v->wr.cell? ⟨g,j*8+q,none⟩=some v:=fun q v h=>by rw[Nat.mul_comm j 8];exact (HW.out.cell (p:=⟨g,8*j+q,none⟩) hg1).trans (hcells q v h)
     have k0:wr.cell? ⟨g,j*8,none⟩=_:=HC 0 _ rfl;have k1:=HC 1 _ rfl;have k2:=HC 2 _ rfl;have k3:=HC 3 _ rfl;have k4:=HC 4 _ rfl;have k5:=HC 5 _ rfl;have k6:=HC 6 _ rfl;have k7:=HC 7 _ rfl;have hk0:=(fun w' (hb:Below wr.heap.size wr w')=>IH.out u w' ok (.slice B m1 m2) (by have:=HSZ.out;omega) hwk ((htk.stays HW.out).stays hb));have hll:((t.kids.take j).map flatT).length<=100000:=(by simp;omega);generalize flatT u=fu at *;generalize (t.kids.take j).map flatT=ll at *;have HK:=Zh hk0;have HTAKE:=Zh htake;clear HC hcells htk hks hwk hk0 htake;unfold RetFlat nodeP at HK;go_wp2_with (first
       | (go_at_call 75;(with_reducible refine (HK.out _ (Below.refl _ _)).mono ?_);rintro e w4 ⟨k4,rfl,ht4,hb4⟩;obtain⟨A4,n4,c4',rfl⟩:=ht4.form;have row4:=HROW.out.stays hb4;have ht5:=zqw (B:=w.heap.size+2) HROW.out (by omega) ht4;have hs4:=hb4.size)
       | (at_builtin;refine zcc (by rfl) _ _ (by rfl) (by rfl) (row4.alloc _) (by simp;omega) hll fu (.slice A4 n4 c4') (ht5.alloc _) ⟨w4.heap.size,0,none⟩ 1 (by rfl) (zee w4 fu (.slice A4 n4 c4')) ?_;intro v6 w6 row6 o6 hB6)
       | fail)
     have hrow4:=zpg row4;have hg6:w4.grownBy w6 _:=(World.grownBy_alloc w4 _ _).trans o6;have hW6:=(gro HW.out hb4).grown hg6 (Nat.le_trans HW.out.size hs4) (fun q e=>by have:=(hrow4 q e).1;omega);have hx6:=(HX.out.stays hb4).grown hg6 (fun e=>by have:=(hrow4 _ e.symm).1;omega);have hz6:=(HZ.out.stays hb4).grown hg6 (fun e=>by have:=(hrow4 _ e.symm).1;omega);go_roundg (n'-(j+1))
     case measure=>have:=HMJ.out;omega
     case rel=>exact⟨j+1,by go_num,by omega,rfl,by rw[HTAKE.out];exact row6,fun h=>by omega,hx6,hz6,hW6⟩
   . have hjn:j=t.kids.length:=(by rw[←HN.out];omega);have hr:=HROW.out;rw[hjn,List.take_length] at hr;have HR:=Zh hr;obtain⟨z0,z1,z2,z3,z4,z5,z6,z7⟩:=HZ.out.cell;obtain⟨f0,f1,f2,f3,f4,f5,f6,f7⟩:=HZ.out.frozen;have HKN:=Zh hjn;obtain⟨Ar,nr,cr,hf⟩:=zph HROW.out;subst hf;clear hr hjn;go_wp2;have hz8:=HZ.out.put (t':=T.zero) (k' := .slice none 0 0) (.mk t.op t.set 0 0 (t.kids.map flatT)) (.slice Ar nr cr);have htree:Tree (put8 wr (w.heap.size+1) (.mk t.op t.set 0 0 (t.kids.map flatT)) (.slice Ar nr cr)) (fun b=>w.heap.size<=b) (.mk t.op t.set 0 0 (t.kids.map flatT)) (.slice Ar nr cr):=by
       by_cases h0:t.kids.length=0
       . rw[H0.out (by rw[HKN.out];exact h0)];exact .nil _ (by rw[List.eq_nil_of_length_eq_zero h0];rfl)
       . have htr:=HR.out.tree (by simpa using Nat.pos_of_ne_zero h0) t.op t.set 0 0;exact (htr.put8 (fun b hb=>by omega)).weak fun b hb _=>by omega
     have hbel:=zb5 HW.out (g:=w.heap.size+1) (by omega) (.mk t.op t.set 0 0 (t.kids.map flatT)) (.slice Ar nr cr);obtain⟨y0,y1,y2,y3,y4,y5,y6,y7⟩:=hz8.cell;refine bodyPost_ret (v:=nodeP (T.mk t.op t.set 0 0 (t.kids.map flatT)) (.slice Ar nr cr)) ?_ rfl ⟨_,rfl,htree,hbel⟩;unfold put8 at y0 y1 y2 y3 y4 y5 y6 y7;simp only[T.op,T.set,T.lo,T.hi] at y0 y1 y2 y3 y4 y5 y6 y7;simp[nodeP,T.op,T.set,T.lo,T.hi,results,Tryd.results75,go_sem,y0,y1,y2,y3,y4,y5,y6,y7]
end
section
attribute [local go_sem ↓] Go.wp_at_zero Go.wp_at_succ
theorem zx3 (w:World) (ok:Nat->Prop) (t u:T) (k k':Value) (hB:ok w.heap.size) (ht:Tree w ok t k) (hu:Tree w ok u k') (op:Int) (p:Nat->Bool) (lo hi:Int):
   Tree (w.alloc (.cells (nodeC t k++nodeC u k').toArray 29)) ok (.mk op p lo hi [t,u]) (.slice (some ⟨w.heap.size,0,none⟩) 2 2):=by
 refine .row (.mk op p lo hi [t,u]) w.heap.size 2 (nodeC t k++nodeC u k').toArray [k,k'] (heap_alloc_new w _) hB rfl (by simp) (Nat.le_refl _) (by decide) rfl ?_ fun i t' k'' e1 e2=>?_
 . simp[T.kids,cellsOf,nodeC]
 . match i,e1,e2 with
   | 0,e1,e2 =>
     simp[T.kids] at e1 e2;subst e1 e2;exact ht.alloc _
   | 1,e1,e2 =>
     simp[T.kids] at e1 e2;subst e1 e2;exact hu.alloc _
theorem oneG (w:World) (ok:Nat->Prop) (t:T) (k:Value) (hB:ok w.heap.size) (ht:Tree w ok t k) (op:Int) (p:Nat->Bool) (lo hi:Int):
   Tree (w.alloc (.cells (nodeC t k).toArray 29)) ok (.mk op p lo hi [t]) (.slice (some ⟨w.heap.size,0,none⟩) 1 1):=by
 refine .row (.mk op p lo hi [t]) w.heap.size 1 (nodeC t k).toArray [k] (heap_alloc_new w _) hB rfl (by simp) (Nat.le_refl _) (by decide) rfl ?_ fun i t' k'' e1 e2=>?_
 . simp[T.kids,cellsOf,nodeC]
 . match i,e1,e2 with
   | 0,e1,e2 =>
     simp[T.kids] at e1 e2;subst e1 e2;exact ht.alloc _
def RowK (w:World) (ok:Nat->Prop) (B:Nat) (v:Value) (l:List T):Prop:=
 ∃ ks,ks.length=l.length∧w.ownsRow B 29 8 v l.length (cellsOf l ks)∧∀ (i:Nat) t' k',l[i]?=some t'->ks[i]?=some k'->Tree w (fun b=>ok b∧some b≠v.ownBlock) t' k'
section
variable {w w':World} {ok:Nat->Prop} {B:Nat} {v:Value} {l:List T}
theorem RowK.nil (w:World) (ok:Nat->Prop) (B:Nat):RowK w ok B (.slice none 0 0) []:=⟨[],rfl,World.ownsRow_nil w B _ 8,fun i t' k' e _=>by simp at e⟩
theorem RowK.stays (h:RowK w ok B v l) (hb:Below w.heap.size w w'):RowK w' ok B v l:=by
 obtain⟨ks,h1,h2,h3⟩:=h;exact⟨ks,h1,za8 h2 hb,fun i t' k' e1 e2=>(h3 i t' k' e1 e2).stays hb⟩
theorem RowK.alloc (h:RowK w ok B v l) (o:Obj):RowK (w.alloc o) ok B v l:=h.stays ((Below.refl _ _).alloc (Nat.le_refl _) _)
theorem RowK.lt (h:RowK w ok B v l):∀ b,v.ownBlock=some b->B<=b∧b<w.heap.size:=by
 obtain⟨ks,h1,h2,h3⟩:=h;exact h2.lt
theorem RowK.form (h:RowK w ok B v l):∃ A n c,v = .slice A n c:=by
 obtain⟨ks,h1,h2,h3⟩:=h;rcases h2.2 with ⟨rfl,_⟩|⟨g,cap,cur,rfl,_⟩ <;> exact⟨_,_,_,rfl⟩
theorem RowK.tree (h:RowK w ok B v l) (hok:∀ b,B<=b->ok b) (h0:0<l.length) (op:Int) (p:Nat->Bool) (lo hi:Int):Tree w ok (.mk op p lo hi l) v:=by
 obtain⟨ks,h1,h2,h3⟩:=h;rcases h2.2 with ⟨rfl,h⟩|⟨g,cap,cur,rfl,hB,hh,hc,hm,hs,ht⟩
 . omega
 . exact .row (.mk op p lo hi l) g cap cur ks hh (hok _ hB) h1 (by omega) hc hm hs ht fun i t' k' e1 e2=>(h3 i t' k' e1 e2).weak fun b hb _=>hb.1
theorem zpf (h:RowK w ok B v l) (hB:B<=w.heap.size) (hl:l.length<=100000) (t:T) (k:Value) (ht:Tree w (fun b=>ok b∧some b≠v.ownBlock) t k)
   (ty:TypeId) (ad:Addr) (c:Nat) (hc:∀ (j:Nat) u,(nodeC t k)[j]?=some u->w.cell? (ad.add j)=some u):
   ∃ v' w',(Builtin.append_ #[27,27] ty #[v,.slice (some ad) 1 c]).run Tryd.prog w = .ok v' w'∧RowK w' ok B v' (l++[t])∧w.grownBy w' v.ownBlock∧B<=w'.heap.size:=by
 obtain⟨ks,h1,h2,h3⟩:=h;obtain⟨i0,hi,hz0,hz1,hz2⟩:=info_parts Tryd.infoNode;obtain⟨v',w',hr,h4,h5,_,h6⟩:=run_append_own_at (P:=Tryd.prog) w B 27 ty 29 i0 _ 8 80 Tryd.underlying27 hi hz0 hz1 hz2 rfl (by decide) v l.length (cellsOf l ks) h2 ad 1 c (nodeC t k) rfl hc
   (by
     intro u hu;simp[nodeC] at hu;rcases hu with rfl|rfl|rfl|rfl|rfl|rfl|rfl|rfl
     all_goals first | rfl | exact ht.one) (by unfold maxLen;omega) (by omega) hB
 refine⟨v',w',hr,⟨ks++[k],by simp[h1],?_,fun i t' k' e1 e2=>?_⟩,h5,Nat.le_trans hB h5.size⟩
 . rw[zdf l ks t k h1]
   simpa using h4
 . have hkeep:∀ t' k',Tree w (fun b=>ok b∧some b≠v.ownBlock) t' k'->Tree w' (fun b=>ok b∧some b≠v'.ownBlock) t' k':=by
     intro t' k' h;refine h.mono fun b hb hlt _=>⟨h5.block b hlt hb.2,hb.1,?_⟩
     rcases h6 with h6|h6
     . rw[h6];exact hb.2
     . rw[h6];simp;omega
   by_cases hi:i<l.length
   . rw[List.getElem?_append_left hi] at e1;rw[List.getElem?_append_left (by omega)] at e2;exact hkeep _ _ (h3 i t' k' e1 e2)
   . rw[List.getElem?_append_right (by omega)] at e1;rw[List.getElem?_append_right (by omega)] at e2;have hi':i=l.length:=by
       have:=List.getElem?_eq_some_iff.1 e1;simp at this;omega
     subst hi';simp[h1] at e1 e2;subst e1 e2;exact hkeep _ _ ht
theorem zei {ops:Array Oper} {rest:List Oper} {o:Oper} {a:Act} {Q:Exit->Act->World->Prop} (hgd:o.guard=none) (s x:Operand)
   (ho:o.op = .call {callee := .builtin .append,args:=#[s,x],argTypes:=#[27,27]})
   (hs:a.eval s=v) (h:RowK w ok B v l) (hB:B<=w.heap.size) (hl:l.length<=100000) (t:T) (k:Value) (ht:Tree w (fun b=>ok b∧some b≠v.ownBlock) t k)
   (ad:Addr) (c:Nat) (hx:a.eval x = .slice (some ad) 1 c) (hc:∀ (j:Nat) u,(nodeC t k)[j]?=some u->w.cell? (ad.add j)=some u)
   (hk:∀ v' w',RowK w' ok B v' (l++[t])->w.grownBy w' v.ownBlock->B<=w'.heap.size->wpList Tryd.prog ops Q rest (a.put o.dst v') w'):wpList Tryd.prog ops Q (o::rest) a w:=by
 obtain⟨v',w',hr,h2,h3,h4⟩:=zpf h hB hl t k ht o.type ad c hc;refine wpList_plain hgd fun _ hK=>?_
 unfold Oper.wp execOp;simp only[ho,resolve,invoke,builtin,Sem.run_bind,Sem.run_pure,Result.andThen_ok,List.map_toArray,List.map_cons,List.map_nil,hs,hx,hr];exact hK _ _ (hk v' w' h2 h3 h4)
end
structure RepIn (w:World) (g4:Nat) (t fu r:T) (ka kf kr:Value) (wr:World):Prop where
 n:Box8 wr w.heap.size t ka
 res:Box8 wr (w.heap.size+1) T.zero (.slice none 0 0)
 k:Box8 wr g4 fu kf
 rest:Box8 wr (g4+1) r kr
 kt:Tree wr (fun b=>w.heap.size+2<=b∧b<g4) fu kf
 rt:Tree wr (fun b=>w.heap.size+2<=b∧b≠g4∧b≠g4+1) r kr
 g:w.heap.size+2<=g4
 out:Below w.heap.size w wr
theorem zx2 (w:World) (g:Nat) (t:T) (k:Value):(put8 w g t k).heap.size=w.heap.size:=by simp[put8,World.setCell]
theorem RepIn.more {w wr:World} {g4:Nat} {t fu r:T} {ka kf kr:Value} (h:RepIn w g4 t fu r ka kf kr wr):
   RepIn w g4 t fu (.mk 5 noneP 0 0 [.mk 2 noneP 0 0 [fu,r]]) ka kf (.slice (some ⟨wr.heap.size+1,0,none⟩) 1 1)
     (((put8 wr (g4+1) (.mk 5 noneP 0 0 [.mk 2 noneP 0 0 [fu,r]]) (.slice (some ⟨wr.heap.size+1,0,none⟩) 1 1)).alloc (.cells (nodeC fu kf++nodeC r kr).toArray 29)).alloc
       (.cells (nodeC (.mk 2 noneP 0 0 [fu,r]) (.slice (some ⟨wr.heap.size,0,none⟩) 2 2)).toArray 29)):=by
 have hg:=h.g;have hl:=h.rest.lt;have hk:Tree wr (fun b=>w.heap.size+2<=b∧b≠g4∧b≠g4+1) fu kf:=h.kt.weak fun b hb _=>by omega
 obtain⟨W,hW⟩:∃ W,put8 wr (g4+1) (.mk 5 noneP 0 0 [.mk 2 noneP 0 0 [fu,r]]) (.slice (some ⟨wr.heap.size+1,0,none⟩) 1 1)=W:=⟨_,rfl⟩;have hs:W.heap.size=wr.heap.size:=(by rw[←hW];exact zx2 _ _ _ _);have n1:Box8 W w.heap.size t ka:=(by rw[←hW];exact h.n.putFar (by omega));have n2:Box8 W (w.heap.size+1) T.zero (.slice none 0 0):=(by rw[←hW];exact h.res.putFar (by omega));have n3:Box8 W g4 fu kf:=(by rw[←hW];exact h.k.putFar (by omega));have n4:Box8 W (g4+1) (.mk 5 noneP 0 0 [.mk 2 noneP 0 0 [fu,r]]) (.slice (some ⟨wr.heap.size+1,0,none⟩) 1 1):=(by rw[←hW];exact h.rest.put (t':=T.zero) (k' := .slice none 0 0) _ _);have n5:Tree W (fun b=>w.heap.size+2<=b∧b<g4) fu kf:=(by rw[←hW];exact h.kt.put8 (fun b hb=>by omega));have n6:Tree W (fun b=>w.heap.size+2<=b∧b≠g4∧b≠g4+1) fu kf:=(by rw[←hW];exact hk.put8 (fun b hb=>by omega));have n7:Tree W (fun b=>w.heap.size+2<=b∧b≠g4∧b≠g4+1) r kr:=(by rw[←hW];exact h.rt.put8 (fun b hb=>by omega));have n8:Below w.heap.size w W:=(by rw[←hW];exact zb5 h.out (by omega) _ _);rw[hW];have h1:=zx3 W _ fu r kf kr (show _ by omega) n6 n7 2 noneP 0 0;have h2:=oneG _ _ (.mk 2 noneP 0 0 [fu,r]) _ (show _ by simp only[World.size_alloc];omega) h1 5 noneP 0 0;rw[World.size_alloc,hs] at h2;exact⟨(n1.alloc _).alloc _,(n2.alloc _).alloc _,(n3.alloc _).alloc _,(n4.alloc _).alloc _,(n5.alloc _).alloc _,h2,hg,
   (n8.alloc n8.size _).alloc (by simp;exact Nat.le_succ_of_le n8.size) _⟩
structure RepJn (w:World) (G g4:Nat) (t fu r:T) (ka kf kr v:Value) (l:List T) (wr:World):Prop where
 n:Box8 wr w.heap.size t ka
 res:Box8 wr (w.heap.size+1) T.zero (.slice none 0 0)
 k:Box8 wr g4 fu kf
 rest:Box8 wr (g4+1) r kr
 kt:Tree wr (fun b=>w.heap.size+2<=b∧b<G) fu kf
 rt:Tree wr (fun b=>w.heap.size+2<=b∧b<G) r kr
 g:w.heap.size+2<=g4∧g4+2<=G
 row:RowK wr (fun b=>w.heap.size+2<=b) G v l
 gw:G<=wr.heap.size
 out:Below w.heap.size w wr
theorem RepIn.jn {w wr:World} {g4:Nat} {t fu r:T} {ka kf kr:Value} (h:RepIn w g4 t fu r ka kf kr wr):RepJn w wr.heap.size g4 t fu r ka kf kr (.slice none 0 0) [] wr:=by
 have hg:=h.g;have hl:=h.rest.lt;exact⟨h.n,h.res,h.k,h.rest,h.kt.weak fun b hb _=>by omega,h.rt.weak fun b hb hb2=>by omega,⟨hg,by omega⟩,.nil _ _ _,Nat.le_refl _,h.out⟩
theorem RepJn.push {w wr w6:World} {G g4:Nat} {t fu r:T} {ka kf kr v v6:Value} {l l6:List T} {o:Obj} (h:RepJn w G g4 t fu r ka kf kr v l wr)
   (hrow:RowK w6 (fun b=>w.heap.size+2<=b) G v6 l6) (h6:(wr.alloc o).grownBy w6 v.ownBlock):RepJn w G g4 t fu r ka kf kr v6 l6 w6:=by
 have hg:=h.g;have hgw:=h.gw;have hl:=h.row.lt;have ho:∀ b,v.ownBlock=some b->G<=b:=fun b e=>(hl b e).1
 have hne:∀ b,b<G->some b≠v.ownBlock:=fun b hb e=>by have:=ho b e.symm;omega
 refine⟨(h.n.alloc o).grown h6 (hne _ (by omega)),(h.res.alloc o).grown h6 (hne _ (by omega)),(h.k.alloc o).grown h6 (hne _ (by omega)),(h.rest.alloc o).grown h6 (hne _ (by omega)),
   (h.kt.alloc o).grown h6 (fun b hb=>hne b hb.2),(h.rt.alloc o).grown h6 (fun b hb=>hne b hb.2),hg,hrow,?_,?_⟩
 . have:=h6.size;rw[World.size_alloc] at this;omega
 . exact (h.out.alloc h.out.size o).grown h6 (by rw[World.size_alloc];exact Nat.le_succ_of_le h.out.size) (fun q e=>by have:=ho q e;omega)
set_option maxRecDepth 20000 in
set_option maxHeartbeats 4000000 in
theorem ztx {N:Nat} (ih:FlatF N) {t u:T} {w:World} {ok:Nat->Prop} {k:Value} (hN:SizeOf.sizeOf t<=N+1) (hwk:WF u) (ht:Tree w ok t k) (h4:t.op=4) (hku:t.kids=[u]) (hlo:0<=t.lo) (hlh:t.lo<=t.hi) (hhi:t.hi<=32):
   Calls Tryd.prog 75 #[nodeP t k] w (RetFlat w (.mk 2 noneP 0 0 (List.replicate t.lo.toNat (flatT u)++[restT (flatT u) (t.hi-t.lo).toNat]))):=by
 obtain⟨A,n',c,rfl⟩:=ht.form;have b1:=Box8.new w t (.slice A n' c);have hB:Below w.heap.size w (w.alloc (.cells #[.int .i64 t.op,.int .u64 (word t.set 0),.int .u64 (word t.set 1),.int .u64 (word t.set 2),.int .u64 (word t.set 3),.int .i64 t.lo,.int .i64 t.hi,.slice A n' c] 29)):=(Below.refl _ _).alloc (Nat.le_refl _) _;have b2:=Box8.new0 (w.alloc (.cells #[.int .i64 t.op,.int .u64 (word t.set 0),.int .u64 (word t.set 1),.int .u64 (word t.set 2),.int .u64 (word t.set 3),.int .i64 t.lo,.int .i64 t.hi,.slice A n' c] 29));have b3:=b1.alloc (.cells #[.int .i64 0,.int .u64 0,.int .u64 0,.int .u64 0,.int .u64 0,.int .i64 0,.int .i64 0,.slice none 0 0] 29);have hB2:=hB.alloc hB.size (.cells #[.int .i64 0,.int .u64 0,.int .u64 0,.int .u64 0,.int .u64 0,.int .i64 0,.int .i64 0,.slice none 0 0] 29);obtain⟨hn,hm⟩:=ht.bound;have hn1:n'=1:=(by rw[hn,hku];rfl);obtain⟨g,B,m1,m2,e1,hg1,htk,hcells⟩:=kid8 ht 0 (u:=u) (by rw[hku];rfl);subst e1 hn1;have hks:SizeOf.sizeOf u<SizeOf.sizeOf t:=(by have h:=zav t 0 (by rw[hku];simp);simpa [hku] using h);obtain⟨c0,c1,c2,c3,c4,c5,c6,c7⟩:=b3.cell;have hb4:(t.op==4)=true:=(by simp[h4]);have hd4:(t.op != 4)=false:=(by simp[h4]);have HC:∀ q v,(nodeC u (.slice B m1 m2))[q]?=some v->((w.alloc (.cells #[.int .i64 t.op,.int .u64 (word t.set 0),.int .u64 (word t.set 1),.int .u64 (word t.set 2),.int .u64 (word t.set 3),.int .i64 t.lo,.int .i64 t.hi,.slice (some ⟨g,0,none⟩) 1 c] 29)).alloc (.cells #[.int .i64 0,.int .u64 0,.int .u64 0,.int .u64 0,.int .u64 0,.int .i64 0,.int .i64 0,.slice none 0 0] 29)).cell? ⟨g,q,none⟩=some v:=fun q v h=>by
   have:=(hB2.cell (p:=⟨g,8*0+q,none⟩) hg1).trans (hcells q v h)
   simpa using this
 have k0:((w.alloc (.cells #[.int .i64 t.op,.int .u64 (word t.set 0),.int .u64 (word t.set 1),.int .u64 (word t.set 2),.int .u64 (word t.set 3),.int .i64 t.lo,.int .i64 t.hi,.slice (some ⟨g,0,none⟩) 1 c] 29)).alloc (.cells #[.int .i64 0,.int .u64 0,.int .u64 0,.int .u64 0,.int .u64 0,.int .i64 0,.int .i64 0,.slice none 0 0] 29)).cell? ⟨g,0,none⟩=_:=HC 0 _ rfl;have k1:=HC 1 _ rfl;have k2:=HC 2 _ rfl;have k3:=HC 3 _ rfl;have k4:=HC 4 _ rfl;have k5:=HC 5 _ rfl;have k6:=HC 6 _ rfl;have k7:=HC 7 _ rfl;have HK:=Zh (ih u ((w.alloc (.cells #[.int .i64 t.op,.int .u64 (word t.set 0),.int .u64 (word t.set 1),.int .u64 (word t.set 2),.int .u64 (word t.set 3),.int .i64 t.lo,.int .i64 t.hi,.slice (some ⟨g,0,none⟩) 1 c] 29)).alloc (.cells #[.int .i64 0,.int .u64 0,.int .u64 0,.int .u64 0,.int .u64 0,.int .i64 0,.int .i64 0,.slice none 0 0] 29)) ok (.slice B m1 m2) (by omega) hwk (htk.stays hB2));have HX:=Zh b3;have HZ:=Zh b2;have HB2:=Zh hB2;generalize flatT u=fu at *;unfold RetFlat nodeP at HK;have H4:=Zh h4;clear HC hcells htk hwk b1 b2 b3 hB hB2 ht hN hm hn ih h4;unfold nodeP;go_enter Tryd.func75,Tryd.ntmps75;go_wp2_with (first
   | (go_at_call 75;(with_reducible refine HK.out.mono ?_);rintro e w4 ⟨kf,rfl,htf,hb4'⟩;obtain⟨Ak,nk,ck,rfl⟩:=htf.form;have hx4:=HX.out.stays hb4';have hz4:=HZ.out.stays hb4';obtain⟨d0,d1,d2,d3,d4,d5,d6,d7⟩:=hx4.cell;have hs4:=hb4'.size;have lx4:w.heap.size<w4.heap.size:=hx4.lt;have lz4:w.heap.size+1<w4.heap.size:=by simpa using hz4.lt)
   | fail)
 have hs4':w.heap.size+2<=w4.heap.size:=(by omega);have HX4:=Zh hx4;have HZ4:=Zh hz4;have HTF:=Zh (htf.weak (ok':=fun b=>w.heap.size+2<=b∧b<w4.heap.size) fun b hb hl=>by simp at hb;omega);have HB4:=Zh (gro HB2.out hb4');have hd2:((t.hi-t.lo).toNat:Int)=t.hi-t.lo:=(by omega);generalize (t.hi-t.lo).toNat=d at *;obtain⟨L,hL⟩:∃ L:Nat,t.lo=L:=⟨t.lo.toNat,by omega⟩;have hH:t.hi=((L+d:Nat):Int):=(by omega);have HL:=Zh hL;have HH:=Zh hH;have hLd:L+d<=32:=(by omega);have hLn:t.lo.toNat=L:=(by omega);have HLN:=Zh hLn;clear hx4 hz4 htf hb4' HX HZ HB2 HK hd2 hhi hlo hlh hL hH hLn c0 c1 c2 c3 c4 c5 c6 c7 k0 k1 k2 k3 k4 k5 k6 k7 d0 d1 d2 d3 d4 d5 d6 d7 hb4 hd4;go_loopg [7] d (fun m i wr=>∃ j A3 n3 c3,i = .int .i64 ((L+j:Nat):Int)∧j<=d∧m=d-j∧RepIn w w4.heap.size t fu (restT fu j) (.slice (some ⟨g,0,none⟩) 1 c) (.slice Ak nk ck) (.slice A3 n3 c3) wr)
 case atStart =>
   have h1:=Box8.new w4 fu (.slice Ak nk ck);have h2:=Box8.new (w4.alloc (.cells #[.int .i64 fu.op,.int .u64 (word fu.set 0),.int .u64 (word fu.set 1),.int .u64 (word fu.set 2),.int .u64 (word fu.set 3),.int .i64 fu.lo,.int .i64 fu.hi,.slice Ak nk ck] 29)) (.mk 2 noneP 0 0 []) (.slice none 0 0);simp only[T.op,T.set,T.lo,T.hi,za5,World.size_alloc] at h2;exact⟨0,none,0,0,by first | rfl | simp[HL.out],Nat.zero_le _,rfl,(HX4.out.alloc _).alloc _,by simpa using (HZ4.out.alloc _).alloc _,h1.alloc _,h2,(HTF.out.alloc _).alloc _,.nil _ rfl,hs4',(HB4.out.alloc HB4.out.size _).alloc (by simp;exact Nat.le_succ_of_le HB4.out.size) _⟩
 case round =>
   obtain⟨j,A3,n3,c3,rfl,hj,hmj,hin⟩:=hrel;have HMJ:=Zh hmj;obtain⟨c0,c1,c2,c3',c4,c5,c6,c7⟩:=hin.n.cell;rw[HH.out] at c6;clear hmj c0 c1 c2 c3' c4 c5 c7;have HIN:=Zh hin;have hk4:w4.heap.size<wr.heap.size:=hin.k.lt;have hr4:w4.heap.size+1<wr.heap.size:=hin.rest.lt
   by_cases hlt:j<d
   . obtain⟨k0,k1,k2,k3,k4,k5,k6,k7⟩:=hin.k.cell;obtain⟨r0,r1,r2,r3,r4,r5,r6,r7⟩:=hin.rest.cell;obtain⟨f0,f1,f2,f3,f4,f5,f6,f7⟩:=hin.rest.frozen;have hmore:=hin.more;have e:(.mk 5 noneP 0 0 [.mk 2 noneP 0 0 [fu,restT fu j]]:T)=restT fu (j+1):=rfl;have hne:w4.heap.size≠w4.heap.size+1:=(by omega);generalize hr:restT fu j=r at *;have HM:=Zh hmore;have HE:=Zh e;clear hin hmore e hr;go_wp2;go_roundg (d-(j+1))
     case measure=>have:=HMJ.out;omega
     case rel =>
       have h:=HM.out;unfold put8 nodeC at h;simp only[T.op,T.set,T.lo,T.hi,za5] at h;exact⟨j+1,some ⟨wr.heap.size+1,0,none⟩,1,1,by go_num,by omega,rfl,by rw[←HE.out];exact h⟩
   . have hjd:j=d:=(by omega);subst hjd;have hjn:=hin.jn;have HJ:=Zh hjn;obtain⟨G,hG⟩:∃ G,wr.heap.size=G:=⟨_,rfl⟩;rw[hG] at HJ;generalize hr:restT fu j=r at *;have HR:=Zh hr;clear hin hjn HMJ HX4 HZ4 HTF HB4 HIN hr hG hlt hj;go_wp2;go_loopg [3,8] L (fun m v i wr=>∃ q:Nat,i = .int .i64 (q:Int)∧q<=L∧m=L-q∧RepJn w G w4.heap.size t fu r (.slice (some ⟨g,0,none⟩) 1 c) (.slice Ak nk ck) (.slice A3 n3 c3) v (List.replicate q fu) wr)
     case atStart=>exact⟨0,rfl,Nat.zero_le _,rfl,HJ.out⟩
     case round =>
       obtain⟨q,rfl,hq,hmq,hjn⟩:=hrel;have HMQ:=Zh hmq;obtain⟨A5,n5,m5,hf⟩:=hjn.row.form;subst hf;obtain⟨c0,c1,c2,c3',c4,c5,c6,c7⟩:=hjn.n.cell;rw[HL.out] at c5;clear hmq c0 c1 c2 c3' c4 c6 c7;have hk4:w4.heap.size<wr.heap.size:=hjn.k.lt;have hr4:w4.heap.size+1<wr.heap.size:=hjn.rest.lt;have hz1:w.heap.size+1<wr.heap.size:=hjn.res.lt;have hgw:=hjn.gw;have hg2:=hjn.g.1;have hg3:=hjn.g.2;have hw1:=hjn.row.lt;have hkt:Tree wr (fun b=>w.heap.size+2<=b∧some b≠(Value.slice A5 n5 m5).ownBlock) fu (.slice Ak nk ck):=hjn.kt.weak fun b hb _=>⟨hb.1,fun e=>by have:=hw1 b e.symm;omega⟩
       have hrt:Tree wr (fun b=>w.heap.size+2<=b∧some b≠(Value.slice A5 n5 m5).ownBlock) r (.slice A3 n3 c3):=hjn.rt.weak fun b hb _=>⟨hb.1,fun e=>by have:=hw1 b e.symm;omega⟩
       have HJ2:=Zh hjn;have HKT:=Zh hkt;have HRT:=Zh hrt;obtain⟨k0,k1,k2,k3,k4,k5,k6,k7⟩:=hjn.k.cell;obtain⟨r0,r1,r2,r3,r4,r5,r6,r7⟩:=hjn.rest.cell;clear hjn hkt hrt hw1 hg2 hg3 hgw
       by_cases hlt:q<L
       . clear r0 r1 r2 r3 r4 r5 r6 r7;go_wp2_with (first
           | (at_builtin;refine zei (by rfl) _ _ (by rfl) (by rfl) (HJ2.out.row.alloc _) (by have:=HJ2.out.gw;simp;omega) (by simp;omega) fu (.slice Ak nk ck) (HKT.out.alloc _) ⟨wr.heap.size,0,none⟩ 1 (by rfl) (zee wr fu (.slice Ak nk ck)) ?_;intro v6 w6 row6 o6 hB6)
           | fail)
         have hp:=HJ2.out.push row6 o6;go_roundg (L-(q+1))
         case measure=>have:=HMQ.out;omega
         case rel=>exact⟨q+1,by go_num,by omega,rfl,by rw[List.replicate_succ'];exact hp⟩
       . have hqL:q=L:=(by omega);subst hqL;clear k0 k1 k2 k3 k4 k5 k6 k7;go_wp2_with (first
           | (at_builtin;refine zei (by rfl) _ _ (by rfl) (by rfl) (HJ2.out.row.alloc _) (by have:=HJ2.out.gw;simp;omega) (by simp;omega) r (.slice A3 n3 c3) (HRT.out.alloc _) ⟨wr.heap.size,0,none⟩ 1 (by rfl) (zee wr r (.slice A3 n3 c3)) ?_;intro v6 w6 row6 o6 hB6;obtain⟨A6,n6,m6,hf6⟩:=row6.form;subst hf6;have hp:=HJ2.out.push row6 o6;have HP:=Zh hp;obtain⟨z0,z1,z2,z3,z4,z5,z6,z7⟩:=hp.res.cell;obtain⟨f0,f1,f2,f3,f4,f5,f6,f7⟩:=hp.res.frozen;have hz6:=hp.res.lt;clear hp)
           | fail)
         have hp:=HP.out;have hz8:=hp.res.put (t':=T.zero) (k' := .slice none 0 0) (.mk 2 noneP 0 0 (List.replicate q fu++[r])) (.slice A6 n6 m6);have htr:=hp.row.tree (fun b hb=>by have:=hp.g;omega) (by simp) 2 noneP 0 0;have htree:Tree (put8 w6 (w.heap.size+1) (.mk 2 noneP 0 0 (List.replicate q fu++[r])) (.slice A6 n6 m6)) (fun b=>w.heap.size<=b) (.mk 2 noneP 0 0 (List.replicate q fu++[r])) (.slice A6 n6 m6):=(htr.put8 (fun b hb=>by omega)).weak fun b hb _=>by omega
         have hbel:=zb5 hp.out (g:=w.heap.size+1) (by omega) (.mk 2 noneP 0 0 (List.replicate q fu++[r])) (.slice A6 n6 m6);obtain⟨y0,y1,y2,y3,y4,y5,y6,y7⟩:=hz8.cell;unfold put8 at htree hbel y0 y1 y2 y3 y4 y5 y6 y7;simp only[T.op,T.set,T.lo,T.hi,za5] at htree hbel y0 y1 y2 y3 y4 y5 y6 y7;rw[←HLN.out] at htree;refine bodyPost_ret (v:=nodeP (T.mk 2 noneP 0 0 (List.replicate q fu++[r])) (.slice A6 n6 m6)) ?_ rfl ⟨_,rfl,htree,?_⟩
         . simp[nodeP,T.op,T.set,T.lo,T.hi,za5,results,Tryd.results75,go_sem,y0,y1,y2,y3,y4,y5,y6,y7]
         . exact hbel
theorem zty:∀ N,FlatF N:=by
 intro N;induction N with
 | zero=>intro t w ok k h;obtain⟨op,p,lo,hi,l⟩:=t;simp at h
 | succ N ih =>
   intro t w ok k hN hwf ht
   by_cases h4:t.op=4
   . cases hwf with
     | one p=>cases h4
     | cat l h2 hNl h=>cases h4
     | alt l h2 hNl h=>cases h4
     | rep m n u h0 h1 h2 h3 hu =>
       have e:flatT (.mk 4 noneP m n [u]) = .mk 2 noneP 0 0 (List.replicate m.toNat (flatT u)++[restT (flatT u) (n-m).toNat]):=(by simp[flatT,flatHead]);rw[e];exact ztx (t := .mk 4 noneP m n [u]) (u:=u) ih hN hu ht rfl rfl (by simp only[T.lo];omega) (by simp only[T.lo,T.hi];omega) (by simp only[T.hi];omega)
   . exact ztw ih hN hwf ht h4
theorem zwu {t:T} {w:World} {ok:Nat->Prop} {k:Value} (hwf:WF t) (ht:Tree w ok t k):Calls Tryd.prog 75 #[nodeP t k] w (RetFlat w (flatT t)):=
 zty _ t w ok k (Nat.le_refl _) hwf ht
end
end Go.Proofs.YtgbdanddbgomhaaDoor
