import Derived.Test.YtgbdanddbgomhaaDoorMw18
import Derived.Test.YtgbdanddbgomhaaDoorMw17
import Derived.RangeFuncBound
import Derived.RangeFuncCalls
import Derived.RangeFuncLeaves
import Derived.Shelf.Abstract
import Derived.Shelf.RegionOpen
import Derived.OwnWalkIn
import Derived.TacticsInMore
import Derived.LoopNIn
import Derived.LoopIn
import Derived.Sort.LoopGhostIn
import Derived.Lib.BufferMore
set_option linter.unusedVariables false
set_option linter.unusedSimpArgs false
namespace Go.Proofs.YtgbdanddbgomhaaDoor
open Go Go.RowKit
section
def ruleC (r:T×Bool) (k:Value):List Value:=[.int .i64 r.1.op,.int .u64 (word r.1.set 0),.int .u64 (word r.1.set 1),.int .u64 (word r.1.set 2),.int .u64 (word r.1.set 3),.int .i64 r.1.lo,.int .i64 r.1.hi,k,.bool r.2]
theorem zdj (r:T×Bool) (k:Value):(ruleC r k).length=9:=rfl
def rulesC:List (T×Bool)->List Value->List Value
 | r::rs,k::ks=>ruleC r k++rulesC rs ks
 | _,_=>[]
theorem zgg:∀ (l:List (T×Bool)) (ks:List Value) (r:T×Bool) (k:Value),ks.length=l.length->rulesC (l++[r]) (ks++[k])=rulesC l ks++ruleC r k
 | [],[],r,k,_=>by simp[rulesC]
 | q::l,u::ks,r,k,h=>by simp only[List.cons_append,rulesC];rw[zgg l ks r k (by simpa using h),List.append_assoc]
 | [],_::_,r,k,h=>by simp at h
 | _::_,[],r,k,h=>by simp at h
theorem zgf:∀ (l:List (T×Bool)) (ks:List Value) (i q:Nat) (r:T×Bool) (k:Value),l[i]?=some r->ks[i]?=some k->q<9->(rulesC l ks)[i*9+q]?=(ruleC r k)[q]?
 | [],ks,i,q,r,k,h1,h2,hq=>by simp at h1
 | r'::l,[],i,q,r,k,h1,h2,hq=>by simp at h2
 | r'::l,k'::ks,0,q,r,k,h1,h2,hq=>by
   simp at h1 h2;subst h1 h2;rw[rulesC,List.getElem?_append_left (by rw[zdj];omega)];simp
 | r'::l,k'::ks,i+1,q,r,k,h1,h2,hq=>by
   rw[rulesC,List.getElem?_append_right (by rw[zdj];omega),zdj,show (i+1)*9+q-9=i*9+q by omega];exact zgf l ks i q r k (by simpa using h1) (by simpa using h2) hq
def RuleRow (ty:TypeId) (w:World) (B:Nat) (v:Value) (l:List (T×Bool)):Prop:=
 ∃ ks,ks.length=l.length∧w.ownsRow B ty 9 v l.length (rulesC l ks)∧∀ (i:Nat) r k,l[i]?=some r->ks[i]?=some k->Tree w (fun b=>B<=b) r.1 k
def RdRules (w:World) (A:Option Addr) (l:List (T×Bool)):Prop:=
 ∀ i r,l[i]?=some r->∃ g off k,A=some ⟨g,off,none⟩∧g<w.heap.size∧(∀ q u,(ruleC r k)[q]?=some u->w.cell? ⟨g,off+i*9+q,none⟩=some u)∧Tree w (fun _=>True) r.1 k
section
variable {w w':World} {B:Nat} {v:Value} {l:List (T×Bool)} {ty ty':TypeId} {A:Option Addr}
theorem RdRules.stays (h:RdRules w A l) (hb:Below w.heap.size w w'):RdRules w' A l:=fun i r hi=>by
 obtain⟨g,off,k,e,hg,hc,ht⟩:=h i r hi;exact⟨g,off,k,e,Nat.lt_of_lt_of_le hg hb.size,fun q u hu=>(hb.cell (p:=⟨g,off+i*9+q,none⟩) hg).trans (hc q u hu),ht.stays hb⟩
theorem RuleRow.nil (ty:TypeId) (w:World) (B:Nat):RuleRow ty w B (.slice none 0 0) []:=⟨[],rfl,World.ownsRow_nil w B _ 9,fun i r k h=>by simp at h⟩
theorem RuleRow.form (h:RuleRow ty w B v l):∃ A c,v = .slice A l.length c∧l.length<=c:=by
 obtain⟨ks,h1,h2,h3⟩:=h;rcases h2.2 with ⟨rfl,h0⟩|⟨g,cap,cur,rfl,_,_,hc,_⟩
 . exact⟨none,0,by rw[h0],by omega⟩
 . exact⟨_,_,rfl,hc⟩
theorem RuleRow.lt (h:RuleRow ty w B v l) {b:Nat} (hb:v.ownBlock=some b):B<=b∧b<w.heap.size:=by
 obtain⟨ks,h1,h2,h3⟩:=h;exact World.ownsRow.lt h2 b hb
theorem RuleRow.kind (h:RuleRow ty w B v l) {b:Nat} (hb:v.ownBlock=some b):∃ cur,w.heap[b]?=some (.cells cur ty (0,0)):=by
 obtain⟨ks,h1,h2,h3⟩:=h;exact zaa h2 hb
theorem RuleRow.stays (h:RuleRow ty w B v l) (hb:Below w.heap.size w w'):RuleRow ty w' B v l:=by
 obtain⟨ks,h1,h2,h3⟩:=h;exact⟨ks,h1,za8 h2 hb,fun i r k e1 e2=>(h3 i r k e1 e2).stays hb⟩
theorem RuleRow.grown {v':Value} {l':List (T×Bool)} {B':Nat} (h:RuleRow ty w B v l) (h':RuleRow ty' w B' v' l') (hne:ty≠ty') (hn:ty'≠29) (hg:w.grownBy w' v'.ownBlock):RuleRow ty w' B v l:=by
 obtain⟨ks,h1,h2,h3⟩:=h;refine⟨ks,h1,za3 h2 fun b e hb=>hg.block b hb fun e'=>?_,fun i r k e1 e2=>(h3 i r k e1 e2).mono fun b hb hlt ⟨cur,hc⟩=>⟨hg.block b hlt fun e'=>?_,hb⟩⟩
 . obtain⟨c1,k1⟩:=zaa h2 e;obtain⟨c2,k2⟩:=h'.kind e'.symm;exact za1 k1 k2 hne rfl
 . obtain⟨c2,k2⟩:=h'.kind e'.symm;exact za1 k2 hc hn rfl
theorem RuleRow.rd (h:RuleRow ty w B v l) {n c:Nat} (hv:v = .slice A n c):RdRules w A l:=fun i r hi=>by
 obtain⟨ks,h1,h2,h3⟩:=h;have hl:i<l.length:=(List.getElem?_eq_some_iff.1 hi).1;obtain⟨k,hk⟩:∃ k,ks[i]?=some k:=⟨_,List.getElem?_eq_getElem (by omega)⟩;have ht:=h3 i r k hi hk;rcases h2.2 with ⟨_,h0⟩|⟨g,cap,cur,e,hB,hg,_⟩
 . omega
 . rw[e] at hv h2;injection hv with e1 e2 e3
   refine⟨g,0,k,e1.symm,za0 hg,fun q u hu=>?_,ht.mono fun b _ _ _=>⟨rfl,trivial⟩⟩;have hq:q<9:=by
     have:=(List.getElem?_eq_some_iff.1 hu).1;rw[zdj] at this;exact this
   rw[Nat.zero_add,World.ownsRow.cellAt h2 (i*9+q) (by omega),zgf l ks i q r k hi hk hq];exact hu
end
def RuleBox (ty:TypeId) (w:World) (b:Nat) (r:T×Bool) (k:Value):Prop:=w.heap[b]?=some (.cells #[.int .i64 r.1.op,.int .u64 (word r.1.set 0),.int .u64 (word r.1.set 1),.int .u64 (word r.1.set 2),.int .u64 (word r.1.set 3),.int .i64 r.1.lo,.int .i64 r.1.hi,k,.bool r.2] ty (0,0))
section
variable {w w':World} {b:Nat} {r:T×Bool} {k:Value} {ty:TypeId}
end
structure RuleTy (ty tys:TypeId):Prop where
 und:Tryd.prog.underlying tys=some (.slice ty)
 info:(Tryd.prog.info? ty).map (fun i=>(i.zero,i.size,i.bytes))=some (some (.agg #[.int .i64 0,.int .u64 0,.int .u64 0,.int .u64 0,.int .u64 0,.int .i64 0,.int .i64 0,.slice none 0 0,.bool false]),9,88)
 node:ty≠29
theorem zpb {ty tys:TypeId} (hT:RuleTy ty tys) {w:World} {B:Nat} {v:Value} {l:List (T×Bool)} (h:RuleRow ty w B v l) (hB:B<=w.heap.size) (hl:l.length<=100000) (r:T×Bool) (k:Value) (hk:Tree w (fun b=>B<=b) r.1 k) (td:TypeId) (ad:Addr) (c:Nat)
   (hc:∀ (j:Nat) u,(ruleC r k)[j]?=some u->w.cell? (ad.add j)=some u):
   ∃ v' w',(Builtin.append_ #[tys,tys] td #[v,.slice (some ad) 1 c]).run Tryd.prog w = .ok v' w'∧RuleRow ty w' B v' (l++[r])∧w.grownBy w' v.ownBlock∧(v'.ownBlock=v.ownBlock∨v'.ownBlock=some w.heap.size):=by
 have h0:=h;obtain⟨ks,h1,h2,h3⟩:=h;obtain⟨i0,hi,hz0,hz1,hz2⟩:=info_parts hT.info;have hone:=hk.one;obtain⟨v',w',hr,h4,h5,_,h6⟩:=run_append_own_at (P:=Tryd.prog) w B tys td ty i0 _ 9 88 hT.und hi hz0 hz1 hz2 rfl (by decide) v l.length (rulesC l ks) h2 ad 1 c (ruleC r k) rfl hc
   (by
     intro u hu;simp only[ruleC,List.mem_cons,List.not_mem_nil,or_false] at hu;rcases hu with rfl|rfl|rfl|rfl|rfl|rfl|rfl|rfl|rfl
     all_goals first | rfl | exact hone) (by unfold maxLen;omega) (by omega) hB
 have key:∀ (t':T) (k':Value),Tree w (fun b=>B<=b) t' k'->Tree w' (fun b=>B<=b) t' k':=fun t' k' ht=>ht.mono fun b hb hlt ⟨cur,hcu⟩=>⟨h5.block b hlt fun e=>by
   obtain⟨c2,k2⟩:=h0.kind e.symm;exact za1 k2 hcu hT.node rfl,hb⟩
 refine⟨v',w',hr,⟨ks++[k],by simp[h1],?_,fun i r' k' e1 e2=>?_⟩,h5,h6⟩
 . rw[zgg l ks r k h1]
   simpa using h4
 . by_cases hi':i<l.length
   . rw[List.getElem?_append_left hi'] at e1;rw[List.getElem?_append_left (by omega)] at e2;exact key _ _ (h3 i r' k' e1 e2)
   . have e0:i=l.length:=by
       have:=(List.getElem?_eq_some_iff.1 e1).1;simp at this;omega
     subst e0;rw[List.getElem?_append_right (Nat.le_refl _)] at e1;rw[List.getElem?_append_right (by omega)] at e2;simp[h1] at e1 e2;subst e1 e2;exact key _ _ hk
theorem zf1 {ty tys:TypeId} (hT:RuleTy ty tys) {w:World} {ops:Array Oper} {rest:List Oper} {o:Oper} {a:Act} {Q:Exit->Act->World->Prop} (hgd:o.guard=none) (s x:Operand)
   (ho:o.op = .call {callee := .builtin .append,args:=#[s,x],argTypes:=#[tys,tys]})
   {B:Nat} {v:Value} {l:List (T×Bool)} (hs:a.eval s=v) (h:RuleRow ty w B v l) (hB:B<=w.heap.size) (hl:l.length<=100000) (r:T×Bool) (k:Value) (hkt:Tree w (fun b=>B<=b) r.1 k)
   (ad:Addr) (c:Nat) (hx:a.eval x = .slice (some ad) 1 c) (hc:∀ (j:Nat) u,(ruleC r k)[j]?=some u->w.cell? (ad.add j)=some u)
   (hk:∀ v' w',RuleRow ty w' B v' (l++[r])->w.grownBy w' v.ownBlock->(v'.ownBlock=v.ownBlock∨v'.ownBlock=some w.heap.size)->wpList Tryd.prog ops Q rest (a.put o.dst v') w'):wpList Tryd.prog ops Q (o::rest) a w:=by
 obtain⟨v',w',hr,h2,h3,h4⟩:=zpb hT h hB hl r k hkt o.type ad c hc;refine wpList_plain hgd fun _ hK=>?_
 unfold Oper.wp execOp;simp only[ho,resolve,invoke,builtin,Sem.run_bind,Sem.run_pure,Result.andThen_ok,List.map_toArray,List.map_cons,List.map_nil,hs,hx,hr];exact hK _ _ (hk v' w' h2 h3 h4)
theorem zll {ty:TypeId} (w:World) (r:T×Bool) (k:Value):∀ (j:Nat) u,(ruleC r k)[j]?=some u->(w.alloc (.cells #[.int .i64 r.1.op,.int .u64 (word r.1.set 0),.int .u64 (word r.1.set 1),.int .u64 (word r.1.set 2),.int .u64 (word r.1.set 3),.int .i64 r.1.lo,.int .i64 r.1.hi,k,.bool r.2] ty)).cell? ((⟨w.heap.size,0,none⟩:Addr).add j)=some u:=by
 intro j u hu;rw[Addr.add_lit,Nat.zero_add,cell_of_row _ _ j _ ty (0,0) (heap_alloc_new w _)]
 simpa [ruleC] using hu
theorem zcx {ty:TypeId} {w w':World} {B b:Nat} {v:Value} {l:List (T×Bool)} {cur:Array Value} (h':RuleRow ty w B v l) (hn:ty≠29) (hg:w.grownBy w' v.ownBlock) (hb:w.heap[b]?=some (.cells cur 29 (0,0))):w'.heap[b]?=w.heap[b]?:=
 hg.block b (za0 hb) fun e=>by
   obtain⟨c2,k2⟩:=h'.kind e.symm;exact za1 k2 hb hn rfl
theorem Tree.ruleGrown {ty:TypeId} {w w':World} {B:Nat} {v:Value} {l:List (T×Bool)} {ok:Nat->Prop} {t:T} {k:Value} (h:Tree w ok t k) (h':RuleRow ty w B v l) (hn:ty≠29) (hg:w.grownBy w' v.ownBlock):Tree w' ok t k:=
 h.mono fun b hb _ ⟨cur,hc⟩=>⟨zcx h' hn hg hc,hb⟩
theorem Box8.ruleGrown {ty:TypeId} {w w':World} {B g:Nat} {v:Value} {l:List (T×Bool)} {t:T} {k:Value} (h:Box8 w g t k) (h':RuleRow ty w B v l) (hn:ty≠29) (hg:w.grownBy w' v.ownBlock):Box8 w' g t k:=(zcx h' hn hg h).trans h
theorem zg2 {ty:TypeId} {w0 w w':World} {B:Nat} {v:Value} {l:List (T×Bool)} (hb:Below B w0 w) (hB:B<=w.heap.size) (h':RuleRow ty w B v l) (hg:w.grownBy w' v.ownBlock):Below B w0 w':=hb.grown hg hB fun q e=>(h'.lt e).1
theorem zgh {ty ty2:TypeId} {w0 w w':World} {B g:Nat} {va vb:Value} {l l2:List (T×Bool)} {t:T} {k:Value} {ok:Nat->Prop} {o:Obj} (hA:RuleRow ty w B va l) (hB:RuleRow ty2 w B vb l2) (hne:ty2≠ty) (hn:ty≠29) (hb:Below B w0 w) (hBw:B<=w.heap.size) (ht:Tree w ok t k) (hx:Box8 w g t k)
   (hg:(w.alloc o).grownBy w' va.ownBlock):Below B w0 w'∧RuleRow ty2 w' B vb l2∧Tree w' ok t k∧Box8 w' g t k:=by
 have hal:Below w.heap.size w (w.alloc o):=(Below.refl _ _).alloc (Nat.le_refl _) _;have hA':=hA.stays hal;exact⟨zg2 (hb.alloc hBw o) (by simp;omega) hA' hg,(hB.stays hal).grown hA' hne hn hg,(ht.alloc o).ruleGrown hA' hn hg,(hx.alloc o).ruleGrown hA' hn hg⟩
end
theorem ruleTyM:RuleTy 101 49:=⟨Tryd.underlying49,by kernel_rfl,by decide⟩
theorem ruleTyR:RuleTy 102 50:=⟨Tryd.underlying50,by kernel_rfl,by decide⟩
section
open Go Go.RowKit Go.Shelf
attribute [local go_sem] Oper.semAt_some
abbrev UpAt (q:Nat->Bool) (M:Nat):={x:Nat // x<M∧q x=true}
theorem zn6 (q:Nat->Bool) (m:Nat):(upP q m).length<=m:=by
 unfold upP;exact Nat.le_trans (List.length_filter_le _ _) (by simp)
def KpW (g:Nat) (W W':World):Prop:=W.heap.size<=W'.heap.size∧W'.heap[g]?=W.heap[g]?∧W'.heap[1]?=W.heap[1]?
theorem KpW.refl (g:Nat) (W:World):KpW g W W:=⟨Nat.le_refl _,rfl,rfl⟩
theorem KpW.trans {g:Nat} {A B C:World} (h:KpW g A B) (k:KpW g B C):KpW g A C:=⟨Nat.le_trans h.1 k.1,k.2.1.trans h.2.1,k.2.2.trans h.2.2⟩
theorem KpW.tab {g:Nat} {W W':World} (h:KpW g W W') (ht:Tab W):Tab W':=⟨Nat.lt_of_lt_of_le ht.1 h.1,fun k hk=>(World.cell?_of_block (w:=W) (a:=⟨1,k,none⟩) h.2.2).trans (ht.2 k hk)⟩
theorem KpW.cell {g i:Nat} {W W':World} (h:KpW g W W'):W'.cell? ⟨g,i,none⟩=W.cell? ⟨g,i,none⟩:=World.cell?_of_block (w:=W) (a:=⟨g,i,none⟩) h.2.1
theorem zws {w:World} {g:Nat} (hg:g<w.heap.size) (ht:1<w.heap.size) (W:World) (l:Nat) (o o':Obj) (hl:w.heap.size<=l) (h:W.heap[l]?=some o) (_:o.isCells=false) (_:o.isWalk=false):KpW g W (W.putObj l o'):=
 ⟨by simp[World.putObj],World.putObj_heap_other (by omega),World.putObj_heap_other (by omega)⟩
set_option maxRecDepth 20000 in
set_option maxHeartbeats 1000000 in
theorem zw5 (n:Nat) (hn:1<=n) (l Bn g m c:Nat) (q:Nat->Bool) (hm:m<=1000000) (J Jx:List (UpAt q (64*m))->World->Prop)
   (hY:∀ pre x W,J pre W->pre.length<64*m+1->YieldAt Fence.wide (n-1) Tryd.prog l #[.int .i64 (x.1:Int)] W fun e W' =>
     (e = .returned (.bool true)∧J (pre++[x]) W'∧KpW g W W')∨(e = .returned (.bool false)∧Jx (pre++[x]) W'))
   (W:World) (hBn:W.cell? ⟨Bn,0,none⟩=some (.slice (some ⟨g,0,none⟩) m c)) (hc:∀ i,i<m->W.cell? ⟨g,i,none⟩=some (.int .u64 (word q i))) (ht:Tab W) (h0:J [] W):
   CallsIn Fence.wide n Tryd.prog 108 #[.func (.yield l) #[] #[],.pointer (some ⟨Bn,0,none⟩)] W fun e W'=>(∃ v,e = .returned v)∧
     ((∃ ys,ys.map (·.1)=upP q (64*m)∧J ys W')∨(∃ pre,True∧Jx pre W')):=by
 refine callsIn_of_wp Tryd.func108 rfl trivial ?_ rfl;simp only[Tryd.ntmps108,List.size_toArray,List.length_cons,List.length_nil,Nat.reduceAdd,Nat.reduceSub,Array.replicate_succ,Array.replicate_zero,List.push_toArray,List.append_toArray,List.nil_append,List.cons_append];have HC:=Zh hc;have HY:=Zh hY;clear hc hY
 gi_wp2
 gi_loopg [7] m (fun m' i wr=>∃ (k:Nat) (pre:List (UpAt q (64*m))),i = .int .i64 (k:Int)∧k<=m∧m'=m-k∧pre.map (·.1)=upP q (64*k)∧KpW g W wr∧J pre wr)
 case atStart=>exact⟨0,[],rfl,Nat.zero_le _,rfl,rfl,KpW.refl _ _,h0⟩
 case round =>
   obtain⟨k,pre,rfl,hk,hmk,hpre,hkp,hJ⟩:=hrel;have HMK:=Zh hmk;have HPRE:=Zh hpre;have HKP:=Zh hkp;have HJ:=Zh hJ;clear hmk hpre hkp hJ
   by_cases hlt:k<m
   . have hcx:=HKP.out.cell.trans (HC.out k hlt)
     gi_wp2
     gi_loopg [4] 65 (fun m' x wr2=>∃ (p:Nat) (pre:List (UpAt q (64*m))),x = .int .u64 (fromP q k p:Int)∧p<=64∧m'=65-p∧pre.map (·.1)=upP q (64*k+p)∧KpW g W wr2∧J pre wr2)
     case atStart =>
       refine⟨0,pre,?_,by omega,rfl,HPRE.out,HKP.out,HJ.out⟩;rw[zku];rfl
     case round =>
       obtain⟨p,pre2,rfl,hp,hmp,hpre2,hkp2,hJ2⟩:=hrel;have HMP:=Zh hmp;have HPRE2:=Zh hpre2;have HKP2:=Zh hkp2;have HTAB:=Zh (hkp2.tab ht);clear hmp hpre2 hkp2
       by_cases hx:fromP q k p=0
       . have hxi:((fromP q k p:Nat):Int)=0:=(by omega);have HX:=Zh (fun _:Unit=>hx);clear hx
         gi_wp2
         gi_roundg (m-(k+1))
         case measure=>have:=HMK.out;omega
         case rel =>
           have h64:upP q (64*k+64)=upP q (64*k+p):=by
             have:=zhk (q:=q) (a:=64*k+p) (64-p) fun j h1 h2=>by
               have:=zny (HX.out ()) (j-64*k) (by omega) (by omega)
               rwa [show 64*k+(j-64*k)=j by omega] at this
             rwa [show 64*k+p+(64-p)=64*k+64 by omega] at this
           exact⟨k+1,pre2,by go_num,by omega,rfl,by rw[show 64*(k+1)=64*k+64 by omega,h64];exact HPRE2.out,HKP2.out,hJ2⟩
       . obtain⟨j,hj1,hj2,hj3,hj4,hj5,hj6⟩:=znz hx;have hxl:=zia q k p;have e1:IntKind.u64.wrap (((fromP q k p:Nat):Int)-1)=((fromP q k p-1:Nat):Int):=by
           rw[IntKind.wrap_u64];omega
         have e2:bits .and .u64 ((fromP q k p:Nat):Int) ((fromP q k p-1:Nat):Int)=((fromP q k (j+1):Nat):Int):=by
           rw[bits_and_u64_nat _ _ hxl (by omega),hj5]
         have hxi:¬ ((fromP q k p:Nat):Int)=0:=(by omega);have hlen:pre2.length<64*m+1:=by
           have h1:=congrArg List.length HPRE2.out;have h2:=zn6 q (64*k+p);rw[List.length_map] at h1;omega
         obtain⟨xx,hxx⟩:∃ xx:UpAt q (64*m),xx.1=64*k+j:=⟨⟨64*k+j,by omega,hj3⟩,rfl⟩;obtain⟨fn,tmps,assign,body,hy,hR⟩:=HY.out pre2 xx wr hJ2 hlen;rw[hxx] at hy
         push_cast at hy
         have HXX:=Zh hxx;have HTZ:=Zh (fun N=>(callsIn_wide (n:=N)).2 (tz_p wr (fromP q k p) j hxl hj2 hj6 HTAB.out));have HJ3:=Zh hj3;have HJ4:=Zh hj4;generalize hgx:fromP q k p=x at *;generalize hgy:fromP q k (j+1)=y at *;have HGX:=Zh (fun _:Unit=>hgx);have HGY:=Zh (fun _:Unit=>hgy);have HR:=Zh hR;have HXL:=Zh hxl;have HJ1:=Zh hj1;clear hgx hgy hj3 hj4 hj5 hj6 hJ2 hx HTAB hxx hR hxl hj1 hlen
         gi_wp2_with (refine⟨trivial,?_⟩;gi_at_call 109;refine (HTZ.out _).mono ?_;rintro e w1 ⟨rfl,rfl⟩)
         refine HR.out.mono ?_;have hup:(pre2++[xx]).map (·.1)=upP q (64*k+(j+1)):=by
           rw[List.map_append,HPRE2.out,show 64*k+(j+1)=64*k+j+1 by omega,zut HJ3.out];have:=zhk (q:=q) (a:=64*k+p) (j-p) fun i h1 h2=>by
             have:=HJ4.out (i-64*k) (by omega) (by omega)
             rwa [show 64*k+(i-64*k)=i by omega] at this
           rw[show 64*k+p+(j-p)=64*k+j by have:=HJ1.out;omega] at this;rw[this];simp[HXX.out]
         have HUP:=Zh hup;clear hup;rintro e W3 (⟨rfl,hJ3,hk3⟩|⟨rfl,hJx3⟩)
         . have HJ3':=Zh hJ3;have HK3:=Zh hk3;clear hJ3 hk3
           gi_wp2
           gi_roundg (65-(j+1))
           case measure=>have:=HMP.out;have:=HJ1.out;omega
           case rel =>
             have hy':=HGY.out ();exact⟨j+1,pre2++[xx],by rw[hy'],by omega,rfl,HUP.out,HKP2.out.trans HK3.out,HJ3'.out⟩
         . have HJX3:=Zh hJx3;clear hJx3
           gi_wp2
           refine bodyPost_ret (results_none rfl _ _ _) rfl ?_;exact⟨⟨_,rfl⟩,.inr ⟨_,trivial,HJX3.out⟩⟩
   . have hkm:k=m:=(by omega);have HKM:=Zh hkm;clear hkm
     gi_wp2
     go_end0;exact⟨⟨_,rfl⟩,.inl ⟨pre,by rw[HPRE.out,HKM.out],HJ.out⟩⟩
set_option maxHeartbeats 1000000 in
theorem zuo (n:Nat) (a:Option Addr) (len cap:Nat) (w:World):
   CallsIn Fence.wide n Tryd.prog 93 #[.slice a len cap] w fun e w'=>e = .returned (.func (.func 108) #[] #[.pointer (some ⟨w.heap.size,0,none⟩)])∧w'=w.alloc (.cells #[.slice a len cap] 84):=by
 refine callsIn_of_wp Tryd.func93 rfl trivial ?_ rfl;simp only[Tryd.ntmps93,List.size_toArray,List.length_cons,List.length_nil,Nat.reduceAdd,Nat.reduceSub,Array.replicate_succ,Array.replicate_zero,List.push_toArray,List.append_toArray,List.nil_append,List.cons_append]
 gi_wp2
 go_ret;exact⟨rfl,rfl⟩
theorem zk0 (n:Nat) (hn:1<=n) (Bn g m c C:Nat) (q:Nat->Bool) (hm:m<=1000000) (w:World) (hBn:Bn<w.heap.size) (hcb:w.cell? ⟨Bn,0,none⟩=some (.slice (some ⟨g,0,none⟩) m c)) (hp:Pl w C (.slice (some ⟨g,0,none⟩) m c) m q) (hg:g<w.heap.size) (ht:Tab w):
   SeqStopsK Fence.wide n Tryd.prog 108 #[.pointer (some ⟨Bn,0,none⟩)] (fun x:UpAt q (64*m)=>#[Value.int .i64 (x.1:Int)]) (KpW g) (fun ys=>ys.map (·.1)=upP q (64*m)) (fun _=>True) (64*m+1) w:=fun l J Jx W hW _ _ hY h0 =>
 zw5 n hn l Bn g m c q hm J Jx hY W ((hW.cell (p:=⟨Bn,0,none⟩) hBn).trans hcb) (fun i hi=>(hW.cell (p:=⟨g,i,none⟩) hg).trans (hp.cell i hi)) (ht.below hW ht.1) h0
end
section
attribute [local go_sem ↓] Go.wp_at_zero Go.wp_at_succ
theorem zk9 (q:Nat->Bool) (m:Nat):∀ u∈wordsOf q m,u.oneCell'=true:=by
 intro u hu;simp only[wordsOf,List.mem_map] at hu;obtain⟨i,_,rfl⟩:=hu;rfl
set_option maxHeartbeats 1000000 in
theorem zl0 (w:World) (C m:Nat) (v:Value) (q:Nat->Bool) (h:Pl w C v m q) (hm0:0<m) (hm:m<=1000000):
   Calls Tryd.prog 111 #[v] w (RetPl w m q):=by
 obtain⟨i0,hi,hz0,hz1,hz2⟩:=info_parts Tryd.infoWord;obtain⟨g,c,rfl,_,hg⟩:=h.form hm0;have hown:(w.alloc (.cells #[] 24)).ownsRow w.heap.size 24 1 (.slice (some ⟨w.heap.size,0,none⟩) 0 0) 0 []:=World.ownsRow_lit w #[] 0 (Nat.le_refl _) (by decide) rfl;have hnews:∀ j u,(wordsOf q m)[j]?=some u->(w.alloc (.cells #[] 24)).cell? ((⟨g,0,none⟩:Addr).add j)=some u:=by
   intro j u hu;have hj:j<m:=by
     rcases Nat.lt_or_ge j m with h' | h'
     . exact h'
     . rw[List.getElem?_eq_none (by rw[zbc];exact h')] at hu;cases hu
   rw[zc2 q m j hj] at hu;have hu':=Option.some.inj hu;rw[←hu'];have e:(⟨g,0,none⟩:Addr).add j=⟨g,j,none⟩:=by unfold Addr.add;split <;> simp_all
   rw[e];exact za2 (h.cell j hj) ((Below.refl _ _).alloc (Nat.le_refl _) _)
 have HO:=Zh hown;have HN:=Zh hnews;have hnil:∀ W,(binOp .eql 84 (.slice (some ⟨g,0,none⟩) m c) (.slice none 0 0)).run Tryd.prog W = .ok (.bool false) W:=fun W=>Lib.run_eql_slice_some_nil W _ _ _ Tryd.underlying84
 clear hown hnews h;go_enter Tryd.func111,Tryd.ntmps111;go_wp2_with (at_builtin;refine wpList_append_own _ rfl _ _ 84 rfl w.heap.size 24 i0 (.int .u64 0) 1 8 Tryd.underlying84 hi hz0 hz1 hz2 rfl (by decide) _ _ _ rfl HO.out ⟨g,0,none⟩ m c (wordsOf q m) rfl (by rw[zbc,Nat.mul_one]) HN.out (zk9 q m) ?c3 ?c4 ?c5 ?_)
 case c3=>unfold maxLen;omega
 case c4=>omega
 case c5=>simp
 . intro v' w2 hown' hgrow _;have HO2:=Zh hown';have hB2:Below w.heap.size w w2:=((Below.refl _ _).alloc (Nat.le_refl _) _).grown hgrow (by simp) (fun j e=>((HO.out).lt j e).1);clear hgrow hown';go_wp2;go_ret;refine⟨v',rfl,?_,hB2⟩;exact HO2.out
set_option maxHeartbeats 1000000 in
theorem zvv (w:World) (B C m:Nat) (v v2:Value) (q r:Nat->Bool) (h:Pl w B v m q) (h2:Pl w C v2 m r) (hm0:0<m) (hm:m<=1000000):
   Calls Tryd.prog 110 #[v,v2] w fun e w'=>∃ b:Bool,e = .returned (.bool b)∧(b=true↔∀ i,i<m->word q i=word r i)∧Below w.heap.size w w':=by
 obtain⟨g,c,rfl,_,_⟩:=h.form hm0;obtain⟨g2,c2,rfl,_,_⟩:=h2.form hm0;have H1:=Zh h;have H2:=Zh h2;clear h h2;go_enter Tryd.func110,Tryd.ntmps110;go_wp2;go_loopg [13] m (fun m' i wr=>∃ j:Nat,i = .int .i64 (j:Int)∧j<=m∧m'=m-j∧(∀ k,k<j->word q k=word r k)∧Below w.heap.size w wr)
 case atStart=>exact⟨0,rfl,Nat.zero_le _,rfl,fun k hk=>by omega,Below.refl _ _⟩
 case round =>
   obtain⟨j,rfl,hj,hmj,hz,hW⟩:=hrel;have HMJ:=Zh hmj;have HZ:=Zh hz;clear hmj hz
   by_cases hlt:j<m
   . have hc:=(H1.out.stays hW).cell j hlt;have hc2:=(H2.out.stays hW).cell j hlt;have j0:(0:Int)<=(j:Int):=(by omega);have j1:(j:Int)<(m:Int):=(by omega);cases hb:(word q j != word r j)
     . go_wp2_with fail;go_quiet (fail);go_wp2;go_roundg (m-(j+1))
       case measure=>have:=HMJ.out;omega
       case rel =>
         refine⟨j+1,by go_num,by omega,rfl,fun k hk=>?_,below_drewN hW _⟩
         by_cases hk2:k<j
         . exact HZ.out k hk2
         . have:k=j:=by omega
           subst this
           simpa using hb
     . go_wp2_with fail;go_quiet (fail);go_wp2;go_ret;refine⟨false,rfl,⟨fun h=>(by cases h),fun h=>?_⟩,below_drewN hW _⟩;rw[h j hlt] at hb;simp at hb
   . go_wp2;go_ret;exact⟨true,rfl,⟨fun _ k hk=>HZ.out k (by omega),fun _=>rfl⟩,hW⟩
set_option maxHeartbeats 1000000 in
theorem zio (w:World) (B C m:Nat) (v v2:Value) (q r:Nat->Bool) (h:Pl w B v m q) (h2:Pl w C v2 m r) (hm0:0<m) (hm:m<=1000000):
   Calls Tryd.prog 112 #[v,v2] w (RetPl w m (minusP q r)):=by
 obtain⟨g2,c2,rfl,_,hg4⟩:=h2.form hm0;have H2:=Zh h2;have HC:=Zh (zl0 w B m v q h hm0 hm);unfold RetPl at HC;clear h h2;go_enter Tryd.func112,Tryd.ntmps112;go_wp2_with (go_at_call 111;(with_reducible refine HC.out.mono ?_);rintro e w1 ⟨v1,rfl,hv1,hb1⟩;obtain⟨g,c,rfl,hg1,hg2⟩:=hv1.form hm0;have HV:=Zh hv1;clear hv1);obtain⟨w4,hw4⟩:∃ w4,w4=w1:=⟨_,rfl⟩;rw[←hw4] at HV hb1 hg2 ⊢;clear hw4;go_loopg [12] m (fun m' i wr=>∃ j:Nat,i = .int .i64 (j:Int)∧j<=m∧m'=m-j∧Pl wr w.heap.size (.slice (some ⟨g,0,none⟩) m c) m (mixP q (minusP q r) j)∧Below w.heap.size w wr)
 case atStart=>exact⟨0,rfl,Nat.zero_le _,rfl,HV.out.congr fun i hi=>(zgr _ _ _ _ (Nat.zero_le _)).symm,hb1⟩
 case round =>
   obtain⟨j,rfl,hj,hmj,hpl,hW⟩:=hrel;have HMJ:=Zh hmj;have HPL:=Zh hpl;clear hmj hpl
   by_cases hlt:j<m
   . have hc:=HPL.out.cell j hlt;have hf:=HPL.out.frozen j;rw[zgr _ _ _ _ (Nat.le_refl _)] at hc;have hc2:=(H2.out.stays hW).cell j hlt;have HO:=Zh (zkl q r j);have hst:=HPL.out.set (q':=mixP q (minusP q r) (j+1)) j hlt (fun i hi=>zlw _ _ j i hi);rw[zgq _ _ _ _ (Nat.lt_succ_self j)] at hst;have HST:=Zh hst;clear hst;go_wp2;go_roundg (m-(j+1))
     case measure=>have:=HMJ.out;omega
     case rel =>
       rw[HO.out];exact⟨j+1,by go_num,by omega,rfl,HST.out.1,hW.grown HST.out.2 hW.size (fun k e=>by injection e with e;omega)⟩
   . have hjm:j=m:=(by omega);go_wp2;go_ret;exact⟨_,rfl,HPL.out.congr fun i hi=>zgq _ _ _ _ (by omega),hW⟩
end
end Go.Proofs.YtgbdanddbgomhaaDoor
