import Derived.Test.YtgbdanddbgomhaaDoorMw2
import Derived.Deep.DeepCutAuto
import Derived.Deep.DrawnRows
import Derived.Deep.QuietTactic
import Derived.Deep.RegionHeld3
import Derived.Deep.RegionLaw
import Derived.Deep.CutRange
import Derived.BigRegion
set_option linter.unusedVariables false
set_option linter.unusedSimpArgs false
namespace Go.Proofs.YtgbdanddbgomhaaDoor
open Go Go.RowKit
section
structure Plc where
 set:Nat->Bool
 fol:List Nat
 base:Nat
 last:Bool
 luhn:Bool
structure RSt where
 places:List Plc
 first:List Nat
 lam:Nat
def plcC (p:Plc) (v:Value):List Value:=[.int .u64 (word p.set 0),.int .u64 (word p.set 1),.int .u64 (word p.set 2),.int .u64 (word p.set 3),v,.int .i64 p.base,.bool p.last,.bool p.luhn]
theorem zes (p:Plc) (v:Value):(plcC p v).length=8:=rfl
def plcsC:List Plc->List Value->List Value
 | p::ps,v::vs=>plcC p v++plcsC ps vs
 | _,_=>[]
theorem zj1:∀ (ps:List Plc) (vs:List Value) (p:Plc) (v:Value),vs.length=ps.length->plcsC (ps++[p]) (vs++[v])=plcsC ps vs++plcC p v
 | [],[],p,v,_=>by simp[plcsC]
 | q::ps,u::vs,p,v,h=>by simp only[List.cons_append,plcsC];rw[zj1 ps vs p v (by simpa using h),List.append_assoc]
 | [],_::_,p,v,h=>by simp at h
 | _::_,[],p,v,h=>by simp at h
theorem zj0:∀ (ps:List Plc) (vs:List Value) (i q:Nat) (p:Plc) (v:Value),ps[i]?=some p->vs[i]?=some v->q<8->(plcsC ps vs)[i*8+q]?=(plcC p v)[q]?
 | [],vs,i,q,p,v,h1,h2,hq=>by simp at h1
 | p'::ps,[],i,q,p,v,h1,h2,hq=>by simp at h2
 | p'::ps,v'::vs,0,q,p,v,h1,h2,hq=>by
   simp at h1 h2;subst h1 h2;rw[plcsC,List.getElem?_append_left (by rw[zes];omega)];simp
 | p'::ps,v'::vs,i+1,q,p,v,h1,h2,hq=>by
   rw[plcsC,List.getElem?_append_right (by rw[zes];omega),zes,show (i+1)*8+q-8=i*8+q by omega];exact zj0 ps vs i q p v (by simpa using h1) (by simpa using h2) hq
def RulesIn (w:World) (gr:Nat) (R:RSt):Prop:=
 ∃ vp vs v1,HasO w gr (.cells #[vp,v1,.int .i64 R.lam] 108 (0,0))∧vs.length=R.places.length∧w.ownsRow 0 160 8 vp R.places.length (plcsC R.places vs)∧
   (∀ (i:Nat) v p,vs[i]?=some v->R.places[i]?=some p->Ints w 0 v (ns p.fol))∧Ints w 0 v1 (ns R.first)
section
variable {w w':World} {gr:Nat} {R:RSt} {Q:Nat->Prop}
theorem RulesIn.kept (h:RulesIn w gr R) (hk:Kept Q w w') (hq:∀ b,Q b->b<w.heap.size->∃ cur ty,w.heap[b]?=some (.cells cur ty (0,0))∧ty≠108∧ty≠160∧ty≠3):RulesIn w' gr R:=by
 obtain⟨vp,vs,v1,h1,h2,h3,h4,h5⟩:=h;have key:∀ (b:Nat) (cur:Array Value) (ty:TypeId),w.heap[b]?=some (.cells cur ty (0,0))->(ty=108∨ty=160∨ty=3)->w'.heap[b]?=w.heap[b]?:=fun b cur ty hb ht=>by
   refine hk.block b (za0 hb) fun q=>?_
   obtain⟨cur',ty',hb',n1,n2,n3⟩:=hq b q (za0 hb);have hne:ty'≠ty:=fun e=>by
     rcases ht with h|h|h
     . exact n1 (e.trans h)
     . exact n2 (e.trans h)
     . exact n3 (e.trans h)
   exact za1 hb' hb hne rfl
 refine⟨vp,vs,v1,(key gr _ _ h1 (.inl rfl)).trans h1,h2,za3 h3 fun b e hb=>?_,fun i v p e1 e2=>(h4 i v p e1 e2).block fun b e hb=>?_,h5.block fun b e hb=>?_⟩
 . obtain⟨cur,hc⟩:=zaa h3 e;exact key b cur _ hc (.inr (.inl rfl))
 . obtain⟨cur,hc⟩:=(h4 i v p e1 e2).kind e;exact key b cur _ hc (.inr (.inr rfl))
 . obtain⟨cur,hc⟩:=h5.kind e;exact key b cur _ hc (.inr (.inr rfl))
theorem RulesIn.stays (h:RulesIn w gr R) (hb:Below w.heap.size w w'):RulesIn w' gr R:=h.kept (Kept.of_below (fun _=>False) hb) fun b q=>q.elim
theorem RulesIn.at (h:RulesIn w gr R) {i:Nat} {p:Plc} (hi:R.places[i]?=some p):∃ gp cp v,w.cell? ⟨gr,0,none⟩=some (.slice (some ⟨gp,0,none⟩) R.places.length cp)∧(∀ q u,(plcC p v)[q]?=some u->w.cell? ⟨gp,i*8+q,none⟩=some u)∧Ints w 0 v (ns p.fol)∧gp<w.heap.size∧∃ cur,w.heap[gp]?=some (.cells cur 160 (0,0)):=by
 obtain⟨vp,vs,v1,h1,h2,h3,h4,h5⟩:=h;have hl:i<R.places.length:=(List.getElem?_eq_some_iff.1 hi).1;obtain⟨v,hv⟩:∃ v,vs[i]?=some v:=⟨_,List.getElem?_eq_getElem (by omega)⟩;rcases h3.2 with ⟨_,h0⟩|⟨gp,cp,cur,rfl,hB,hg,_⟩
 . omega
 refine⟨gp,cp,v,cell_of_row w gr 0 _ _ (0,0) h1,fun q u hu=>?_,h4 i v p hv hi,za0 hg,cur,hg⟩;have hq:q<8:=by
   have:=(List.getElem?_eq_some_iff.1 hu).1;rw[zes] at this;exact this
 rw[World.ownsRow.cellAt h3 (i*8+q) (by omega),zj0 R.places vs i q p v hi hv hq];exact hu
end
def wdsC (l:List (Nat×Nat)):List Value:=l.flatMap fun x=>[.int .i64 x.1,.int .u64 x.2]
theorem zl7 (l:List (Nat×Nat)):(wdsC l).length=l.length*2:=by
 induction l with
 | nil=>rfl
 | cons p l ih=>simp only[wdsC,List.flatMap_cons,List.length_append,List.length_cons,List.length_nil] at ih ⊢;omega
theorem zot (l:List (Nat×Nat)) (x:Nat×Nat):wdsC l++[.int .i64 x.1,.int .u64 x.2]=wdsC (l++[x]):=by simp[wdsC]
theorem zl8:∀ (l:List (Nat×Nat)) (i:Nat) (x:Nat×Nat),l[i]?=some x->(wdsC l)[i*2]?=some (.int .i64 x.1)∧(wdsC l)[i*2+1]?=some (.int .u64 x.2)
 | [],i,x,h=>by simp at h
 | y::l,0,x,h=>by
   simp at h;subst h;exact⟨rfl,rfl⟩
 | y::l,i+1,x,h=>by
   have ih:=zl8 l i x (by simpa using h);have e:wdsC (y::l) = .int .i64 y.1 :: .int .u64 y.2::wdsC l:=rfl;rw[e,show (i+1)*2=i*2+1+1 by omega]
   simpa using ih
def Wds (w:World) (B:Nat) (v:Value) (l:List (Nat×Nat)):Prop:=w.ownsRow B 167 2 v l.length (wdsC l)
section
variable {w w':World} {B:Nat} {v:Value} {l:List (Nat×Nat)}
theorem Wds.form (h:Wds w B v l):∃ A c,v = .slice A l.length c:=by
 rcases h.2 with ⟨rfl,h0⟩|⟨g,cap,cur,rfl,_⟩
 . exact⟨none,0,by rw[h0]⟩
 . exact⟨_,_,rfl⟩
theorem Wds.block (h:Wds w B v l) (hb:∀ b,v.ownBlock=some b->b<w.heap.size->w'.heap[b]?=w.heap[b]?):Wds w' B v l:=za3 h hb
theorem Wds.off {Q:Nat->Prop} (h:Wds w B v l) (hk:Kept Q w w') (hq:∀ b,v.ownBlock=some b->¬ Q b):Wds w' B v l:=h.block fun b e hb=>hk.block b hb (hq b e)
theorem Wds.stays (h:Wds w B v l) (hb:Below w.heap.size w w'):Wds w' B v l:=za8 h hb
theorem Wds.in (h:Wds w B v l) {b:Nat} (hb:v.ownBlock=some b):B<=b∧b<w.heap.size:=World.ownsRow.lt h b hb
theorem Wds.kind (h:Wds w B v l) {b:Nat} (hb:v.ownBlock=some b):∃ cur,w.heap[b]?=some (.cells cur 167 (0,0)):=zaa h hb
theorem Wds.at (h:Wds w B v l) {i:Nat} {x:Nat×Nat} (hi:l[i]?=some x):∃ g c,v = .slice (some ⟨g,0,none⟩) l.length c∧B<=g∧g<w.heap.size∧w.cell? ⟨g,i*2,none⟩=some (.int .i64 x.1)∧w.cell? ⟨g,i*2+1,none⟩=some (.int .u64 x.2):=by
 have hl:i<l.length:=(List.getElem?_eq_some_iff.1 hi).1;rcases h.2 with ⟨_,h0⟩|⟨g,cap,cur,rfl,hB,hg,_⟩
 . omega
 have hx:=zl8 l i x hi;exact⟨g,cap,rfl,hB,za0 hg,by rw[World.ownsRow.cellAt h (i*2) (by omega)];exact hx.1,by rw[World.ownsRow.cellAt h (i*2+1) (by omega)];exact hx.2⟩
end
end
section
attribute [local go_sem ↓] Go.wp_at_zero Go.wp_at_succ
def outStep (R:RSt) (x:Nat×Nat) (o:Nat×Nat):Nat×Nat:=match R.places[x.1]? with
 | some q=>if q.last=true then (if q.luhn=true then (o.1,o.2 ||| x.2) else (o.1 ||| x.2,o.2)) else o
 | none=>o
def mOutP (R:RSt):List (Nat×Nat)->Nat×Nat->Nat×Nat
 | [],o=>o
 | x::l,o=>mOutP R l (outStep R x o)
def Fits (R:RSt) (st:List (Nat×Nat)):Prop:=∀ x∈st,x.1<R.places.length∧x.2<2 ^ 64
theorem zq0 (R:RSt) (st:List (Nat×Nat)) (k:Nat) (h:k<st.length) (o:Nat×Nat):mOutP R (st.drop k) o=mOutP R (st.drop (k+1)) (outStep R (st[k]'h) o):=by
 rw[List.drop_eq_getElem_cons h,mOutP]
theorem ze0 {B:Nat} {w w':World} (h:Below B w w') (n:Nat):Below B w (w'.drewN n):=⟨h.os,h.tape,h.output,h.size,h.block⟩
def BoxO (w:World) (g:Nat) (a b:Value):Prop:=w.heap[g]?=some (.cells #[a,b] 123 (0,0))
section
variable {w w':World} {g:Nat} {a b v:Value}
theorem BoxO.new (w:World) (a b:Value) (g:Nat) (h:w.heap.size=g):BoxO (w.alloc (.cells #[a,b] 123)) g a b:=by
 subst h;exact heap_alloc_new w _
theorem BoxO.cell (h:BoxO w g a b):w.cell? ⟨g,0,none⟩=some a∧w.cell? ⟨g,1,none⟩=some b:=by
 unfold BoxO at h;constructor <;> exact cell_of_row w g _ _ 123 (0,0) h
theorem BoxO.frozen (h:BoxO w g a b):w.frozen? ⟨g,0,none⟩=false∧w.frozen? ⟨g,1,none⟩=false:=by
 unfold BoxO at h;constructor <;> simp[World.frozen?,h]
theorem BoxO.lt (h:BoxO w g a b):g<w.heap.size:=za0 h
theorem BoxO.alloc (h:BoxO w g a b) (o:Obj):BoxO (w.alloc o) g a b:=(Below.heap_alloc w o g h.lt).trans h
theorem BoxO.put0 (h:BoxO w g a b) (v:Value):BoxO (w.setCell ⟨g,0,none⟩ v) g v b:=by
 unfold BoxO at h ⊢;rw[heap_setCell_same w g 0 _ _ v h];rfl
theorem BoxO.put1 (h:BoxO w g a b) (v:Value):BoxO (w.setCell ⟨g,1,none⟩ v) g a v:=by
 unfold BoxO at h ⊢;rw[heap_setCell_same w g 1 _ _ v h];rfl
theorem BoxO.far (h:BoxO w g a b) {ad:Addr} (ha:g≠ad.block) (u:Value):BoxO (w.setCell ad u) g a b:=(Below.heap_setCell w ad u g ha).trans h
end
set_option maxRecDepth 20000 in
set_option maxHeartbeats 2000000 in
theorem zwn {w:World} {gr D:Nat} {R:RSt} {va:Value} {st:List (Nat×Nat)} (hR:RulesIn w gr R) (ha:Wds w D va st) (hf:Fits R st) (hl:st.length<=100000) (hP:R.places.length<=100000):
   Calls Tryd.prog 52 #[.pointer (some ⟨gr,0,none⟩),va] w fun e w'=>e = .returned (.agg #[.int .u64 (mOutP R st (0,0)).1,.int .u64 (mOutP R st (0,0)).2])∧Below w.heap.size w w':=by
 obtain⟨A,c,rfl⟩:=ha.form;have HR:=Zh hR;have HA:=Zh ha;have HF:=Zh hf;obtain⟨L,hL⟩:∃ L,st.length=L:=⟨_,rfl⟩;rw[hL] at HA hl ⊢;have HL:=Zh hL;clear hR ha hf hL;go_enter Tryd.func52,Tryd.ntmps52;go_wp2;go_loopg [11] L (fun m i wr=>∃ (k a b:Nat),i = .int .i64 (k:Int)∧k<=L∧m=L-k∧a<18446744073709551616∧b<18446744073709551616∧mOutP R (st.drop k) (a,b)=mOutP R st (0,0)∧BoxO wr w.heap.size (.int .u64 0) (.int .u64 0)∧BoxO wr (w.heap.size+1) (.int .u64 a) (.int .u64 b)∧Below w.heap.size w wr)
 case atStart=>exact⟨0,0,0,rfl,Nat.zero_le _,rfl,by omega,by omega,rfl,(BoxO.new w _ _ _ rfl).alloc _,BoxO.new _ _ _ _ (by simp),((Below.refl _ _).alloc (Nat.le_refl _) _).alloc (by simp) _⟩
 case round =>
   obtain⟨k,a,b,rfl,hk,hmk,ha64,hb64,ho,bR,bO,hW⟩:=hrel;have HMK:=Zh hmk;have HO:=Zh ho;have BR:=Zh bR;have BO:=Zh bO;have HW:=Zh hW;have hl0:=bR.lt;have hl1:=bO.lt;obtain⟨o0,o1⟩:=bO.cell;obtain⟨f0,f1⟩:=bO.frozen;clear hmk ho bR bO hW
   by_cases hkL:k<L
   . have hks:k<st.length:=(by rw[HL.out];exact hkL);obtain⟨x,hx⟩:∃ x,st[k]?=some x:=⟨_,List.getElem?_eq_getElem hks⟩;obtain⟨g,cc,e1,_,hg,h0,h1⟩:=(HA.out.stays HW.out).at hx;rw[HL.out] at e1;simp only[Value.slice.injEq] at e1;obtain⟨rfl,-,rfl⟩:=e1;have hgx:st[k]'hks=x:=(by have:=List.getElem?_eq_getElem hks;rw[hx] at this;injection this with this;exact this.symm);obtain⟨x1,x2⟩:=x;have hfx:=HF.out (x1,x2) (by rw[←hgx];exact List.getElem_mem hks);obtain⟨p,hp⟩:∃ p,R.places[x1]?=some p:=⟨_,List.getElem?_eq_getElem hfx.1⟩;obtain⟨gp,cp,v,r0,hpc,-,hgp,-⟩:=(HR.out.stays HW.out).at hp;have hst:=zq0 R st k hks (a,b);have hx264:x2<18446744073709551616:=hfx.2;rw[hgx,HO.out] at hst;have hos:outStep R (x1,x2) (a,b)=if p.last=true then (if p.luhn=true then (a,b ||| x2) else (a ||| x2,b)) else (a,b):=by unfold outStep;rw[hp]
     rw[hos] at hst;have hc6:=hpc 6 _ rfl;have hc7:=hpc 7 _ rfl;have hgr:gr<wr.heap.size:=(by obtain⟨_,_,_,h1,_⟩:=HR.out.stays HW.out;exact za0 h1);obtain⟨P,hP'⟩:∃ P,R.places.length=P:=⟨_,rfl⟩;have hxP:(x1:Int)<(P:Int):=(by have:=hfx.1;omega);rw[hP'] at r0;have i0:(0:Int)<=(x1:Int):=(by omega);have k0:(0:Int)<=(k:Int):=(by omega);have k1:(k:Int)<(L:Int):=(by omega);have hb1:=bits_or_u64_nat a x2 ha64 hx264;have hb2:=bits_or_u64_nat b x2 hb64 hx264;have HST:=Zh hst;simp only at h0 h1;clear hst hos hpc hp hgx hfx hx hks HO;cases hlast:p.last <;> cases hluhn:p.luhn <;> rw[hlast,hluhn] at HST <;> rw[hlast] at hc6 <;> rw[hluhn] at hc7
     all_goals
       go_wp2;go_quiet (fail);go_wp2;go_roundg (L-(k+1))
       case measure=>have:=HMK.out;omega
       case rel =>
         have hs:=HST.out;simp only[if_true,if_false,Bool.false_eq_true] at hs;have ho1:a ||| x2<18446744073709551616:=Nat.or_lt_two_pow (n:=64) ha64 hx264;have ho2:b ||| x2<18446744073709551616:=Nat.or_lt_two_pow (n:=64) hb64 hx264
         first
           | exact⟨k+1,a,b,by go_num,by omega,rfl,ha64,hb64,hs.symm,BR.out.alloc _,BO.out.alloc _,ze0 (HW.out.alloc HW.out.size _) _⟩
           | exact⟨k+1,a ||| x2,b,by go_num,by omega,rfl,ho1,hb64,hs.symm,BoxO.far (w:=(wr.alloc _).drewN _) (BR.out.alloc _) (ad:=⟨w.heap.size+1,0,none⟩) (by show w.heap.size≠w.heap.size+1;omega) _,BoxO.put0 (w:=(wr.alloc _).drewN _) (BO.out.alloc _) _,(ze0 (HW.out.alloc HW.out.size _) _).setCell (p:=⟨w.heap.size+1,0,none⟩) (by show w.heap.size<=w.heap.size+1;omega) _⟩
           | exact⟨k+1,a,b ||| x2,by go_num,by omega,rfl,ha64,ho2,hs.symm,BoxO.far (w:=(wr.alloc _).drewN _) (BR.out.alloc _) (ad:=⟨w.heap.size+1,1,none⟩) (by show w.heap.size≠w.heap.size+1;omega) _,BoxO.put1 (w:=(wr.alloc _).drewN _) (BO.out.alloc _) _,(ze0 (HW.out.alloc HW.out.size _) _).setCell (p:=⟨w.heap.size+1,1,none⟩) (by show w.heap.size<=w.heap.size+1;omega) _⟩
   . have hkl:k=st.length:=(by rw[HL.out];omega);have ho:=HO.out;rw[hkl,List.drop_length,mOutP] at ho;have HOO:=Zh ho;obtain⟨q0,q1⟩:=BR.out.cell;obtain⟨f2,f3⟩:=BR.out.frozen;clear ho hkl;go_wp2;have bF:=(BR.out.put0 (.int .u64 (a:Int))).put1 (.int .u64 (b:Int));obtain⟨y0,y1⟩:=bF.cell;refine bodyPost_ret (v := .agg #[.int .u64 (a:Int),.int .u64 (b:Int)]) ?_ rfl ⟨by rw[←HOO.out],(HW.out.setCell (p:=⟨w.heap.size,0,none⟩) (Nat.le_refl _) _).setCell (p:=⟨w.heap.size,1,none⟩) (Nat.le_refl _) _⟩;simp[results,Tryd.results52,go_sem,y0,y1]
end
section
attribute [local go_sem ↓] Go.wp_at_zero Go.wp_at_succ
set_option maxHeartbeats 1000000 in
theorem zwp (p:Nat->Bool) (b:Int) (w:World) (g o:Nat) (hc:∀ q,q<4->w.cell? ⟨g,o+q,none⟩=some (.int .u64 (word p q))) (hb:0<=b) (hb':b<=255):
   Calls Tryd.prog 83 #[.pointer (some ⟨g,o,none⟩),.int .u8 b] w fun e w'=>e = .returned (.bool (p b.toNat))∧Below w.heap.size w w':=by
 have hq:(b / 64).toNat<4:=(by omega);have hv:=hc (b / 64).toNat hq;have H:=zi8 p b hb hb';rw[←H];clear H;have i0:(0:Int)<=b / 64:=(by omega);have i1:b / 64<4:=(by omega);go_enter Tryd.func83,Tryd.ntmps83;go_wp2;go_ret;exact⟨rfl,Below.refl _ _⟩
end
section
attribute [local go_sem ↓] Go.wp_at_zero Go.wp_at_succ
theorem Tryd.infoWords:(Tryd.prog.info? 167).map (fun i=>(i.zero,i.size,i.bytes))=some (some (.agg #[.int .i64 0,.int .u64 0]),2,16):=by kernel_rfl
def hasAt (R:RSt) (b:Nat) (x:Nat×Nat):Bool:=match R.places[x.1]? with
 | some p=>p.set b
 | none=>false
theorem Wds.nil (w:World) (B:Nat):Wds w B (.slice none 0 0) []:=World.ownsRow_nil w B _ 2
theorem Wds.cut {w:World} {B n c:Nat} {A:Option Addr} {l:List (Nat×Nat)} (h:Wds w B (.slice A n c) l):Wds w B (.slice A 0 c) []:=by
 rcases h.2 with ⟨e,h0⟩|⟨g,cap,cur,e,hB,hg,hnc,hcm,hcs,_⟩
 . injection e with e1 e2 e3
   subst e1 e3;exact Wds.nil _ _
 . injection e with e1 e2 e3
   subst e1 e3;exact⟨rfl,.inr ⟨g,c,cur,rfl,hB,hg,Nat.zero_le _,hcm,hcs,by simp[wdsC]⟩⟩
theorem zsb {w:World} {B:Nat} {v:Value} {l:List (Nat×Nat)} (h:Wds w B v l) (hB:B<=w.heap.size) (hl:l.length<=100000) (x:Nat×Nat) (ty:TypeId) (ad:Addr) (c:Nat)
   (hc:∀ (j:Nat) u,[Value.int .i64 x.1,.int .u64 x.2][j]?=some u->w.cell? (ad.add j)=some u):
   ∃ v' w',(Builtin.append_ #[119,119] ty #[v,.slice (some ad) 1 c]).run Tryd.prog w = .ok v' w'∧Wds w' B v' (l++[x])∧w.grownBy w' v.ownBlock∧(v'.ownBlock=v.ownBlock∨v'.ownBlock=some w.heap.size):=by
 obtain⟨i0,hi,hz0,hz1,hz2⟩:=info_parts Tryd.infoWords;obtain⟨v',w',hr,h4,h5,_,h6⟩:=run_append_own_at (P:=Tryd.prog) w B 119 ty 167 i0 _ 2 16 Tryd.underlying119 hi hz0 hz1 hz2 rfl (by decide) v l.length (wdsC l) h ad 1 c [.int .i64 x.1,.int .u64 x.2] rfl hc
   (by
     intro u hu;simp at hu;rcases hu with rfl|rfl
     all_goals rfl) (by unfold maxLen;omega) (by omega) hB
 refine⟨v',w',hr,?_,h5,h6⟩;unfold Wds;rw[←zot]
 simpa using h4
theorem zgb {w:World} {ops:Array Oper} {rest:List Oper} {o:Oper} {a:Act} {Q:Exit->Act->World->Prop} (hgd:o.guard=none) (s x:Operand)
   (ho:o.op = .call {callee := .builtin .append,args:=#[s,x],argTypes:=#[119,119]})
   {B:Nat} {v:Value} {l:List (Nat×Nat)} (hs:a.eval s=v) (h:Wds w B v l) (hB:B<=w.heap.size) (hl:l.length<=100000) (y:Nat×Nat)
   (ad:Addr) (c:Nat) (hx:a.eval x = .slice (some ad) 1 c) (hc:∀ (j:Nat) u,[Value.int .i64 y.1,.int .u64 y.2][j]?=some u->w.cell? (ad.add j)=some u)
   (hk:∀ v' w',Wds w' B v' (l++[y])->w.grownBy w' v.ownBlock->(v'.ownBlock=v.ownBlock∨v'.ownBlock=some w.heap.size)->wpList Tryd.prog ops Q rest (a.put o.dst v') w'):wpList Tryd.prog ops Q (o::rest) a w:=by
 obtain⟨v',w',hr,h2,h3,h4⟩:=zsb h hB hl y o.type ad c hc;refine wpList_plain hgd fun _ hK=>?_
 unfold Oper.wp execOp;simp only[ho,resolve,invoke,builtin,Sem.run_bind,Sem.run_pure,Result.andThen_ok,List.map_toArray,List.map_cons,List.map_nil,hs,hx,hr];exact hK _ _ (hk v' w' h2 h3 h4)
theorem zil (w:World) (x y:Nat):∀ (j:Nat) u,[Value.int .i64 x,.int .u64 y][j]?=some u->(w.alloc (.cells #[.int .i64 (x:Int),.int .u64 (y:Int)] 167)).cell? ((⟨w.heap.size,0,none⟩:Addr).add j)=some u:=by
 intro j u hu;rw[Addr.add_lit,Nat.zero_add,cell_of_row _ _ j _ 167 (0,0) (heap_alloc_new w _)]
 simpa using hu
set_option maxRecDepth 20000 in
set_option maxHeartbeats 2000000 in
theorem zx4 {w:World} {gr D B:Nat} {R:RSt} {va vr:Value} {st l0:List (Nat×Nat)} {b:Int} (hR:RulesIn w gr R) (ha:Wds w D va st) (hr:Wds w B vr l0) (hap:∀ x,va.ownBlock=some x->vr.ownBlock≠some x) (hB:B<=w.heap.size)
   (hf:Fits R st) (hl:st.length<=100000) (hP:R.places.length<=100000) (hb:0<=b) (hb':b<=255):
   Calls Tryd.prog 51 #[.pointer (some ⟨gr,0,none⟩),va,.int .u8 b,vr] w fun e w'=>∃ v',e = .returned v'∧Wds w' B v' (st.filter (hasAt R b.toNat))∧Kept (fun x=>vr.ownBlock=some x) w w'∧∀ x,v'.ownBlock=some x->vr.ownBlock=some x∨w.heap.size<=x:=by
 obtain⟨A,c,rfl⟩:=ha.form;obtain⟨Ar,cr,rfl⟩:=hr.form;have HR:=Zh hR;have HA:=Zh ha;have HF:=Zh hf;have HRM:=Zh hr.cut;have HAP:=Zh hap;have hcut:(Value.slice Ar 0 cr).ownBlock=(Value.slice Ar l0.length cr).ownBlock:=by cases Ar <;> rfl
 have HCUT:=Zh hcut;obtain⟨L,hL⟩:∃ L,st.length=L:=⟨_,rfl⟩;rw[hL] at HA hl HAP ⊢;have HL:=Zh hL;clear hR ha hf hL hr hap hcut;go_enter Tryd.func51,Tryd.ntmps51;go_wp2;go_loopg [3,15] L (fun m v i wr=>∃ k:Nat,i = .int .i64 (k:Int)∧k<=L∧m=L-k∧Wds wr B v ((st.take k).filter (hasAt R b.toNat))∧Kept (fun x=>(Value.slice Ar l0.length cr).ownBlock=some x) w wr∧∀ x,v.ownBlock=some x->(Value.slice Ar l0.length cr).ownBlock=some x∨w.heap.size<=x)
 case atStart=>exact⟨0,by first | rfl | trivial,Nat.zero_le _,rfl,by simpa using HRM.out,Kept.refl _ _,fun x e => .inl (by rw[←HCUT.out];exact e)⟩
 case round =>
   obtain⟨k,rfl,hk,hmk,hwd,hkp,hown⟩:=hrel;have HMK:=Zh hmk;have HWD:=Zh hwd;have HKP:=Zh hkp;have HOWN:=Zh hown;obtain⟨Av,cv,hfv⟩:=hwd.form;subst hfv;clear hmk hwd hkp hown
   by_cases hkL:k<L
   . have hks:k<st.length:=(by rw[HL.out];exact hkL);obtain⟨x,hx⟩:∃ x,st[k]?=some x:=⟨_,List.getElem?_eq_getElem hks⟩;have hRw:RulesIn wr gr R:=HR.out.kept HKP.out fun x q _=>by
       obtain⟨cur,hc⟩:=HRM.out.kind (b:=x) (by rw[HCUT.out];exact q);exact⟨_,_,hc,by decide,by decide,by decide⟩
     have hAw:=HA.out.off HKP.out fun x e q=>HAP.out x e q
     obtain⟨g,cc,e1,_,hg,h0,h1⟩:=hAw.at hx;rw[HL.out] at e1;simp only[Value.slice.injEq] at e1;obtain⟨rfl,-,rfl⟩:=e1;have hgx:st[k]'hks=x:=(by have:=List.getElem?_eq_getElem hks;rw[hx] at this;injection this with this;exact this.symm);obtain⟨x1,x2⟩:=x;have hfx:=HF.out (x1,x2) (by rw[←hgx];exact List.getElem_mem hks);obtain⟨p,hp⟩:∃ p,R.places[x1]?=some p:=⟨_,List.getElem?_eq_getElem hfx.1⟩;obtain⟨gp,cp,v,r0,hpc,-,hgp,-⟩:=hRw.at hp;have hha:hasAt R b.toNat (x1,x2)=p.set b.toNat:=(by unfold hasAt;rw[hp]);have htk:(st.take (k+1)).filter (hasAt R b.toNat)=(st.take k).filter (hasAt R b.toNat)++(if p.set b.toNat=true then [(x1,x2)] else []):=by
       rw[List.take_succ_eq_append_getElem hks,List.filter_append,hgx];cases hs:p.set b.toNat
       . rw[List.filter_cons_of_neg (by rw[hha,hs];decide)];simp
       . rw[List.filter_cons_of_pos (by rw[hha,hs])];simp
     have hll:((st.take k).filter (hasAt R b.toNat)).length<=100000:=by
       have:=List.length_filter_le (hasAt R b.toNat) (st.take k);rw[List.length_take] at this;omega
     have hgr:gr<wr.heap.size:=(by obtain⟨_,_,_,h1,_⟩:=hRw;exact za0 h1);obtain⟨P,hP'⟩:∃ P,R.places.length=P:=⟨_,rfl⟩;have hxP:(x1:Int)<(P:Int):=(by have:=hfx.1;omega);rw[hP'] at r0;have i0:(0:Int)<=(x1:Int):=(by omega);have k0:(0:Int)<=(k:Int):=(by omega);have k1:(k:Int)<(L:Int):=(by omega);have hbw:B<=wr.heap.size:=Nat.le_trans hB HKP.out.size;have HH:=Zh (fun (W:World) (hb2:Below wr.heap.size wr W)=>zwp p.set b W gp (x1*8) (fun q hq=>(hb2.cell (p:=⟨gp,x1*8+q,none⟩) hgp).trans (hpc q _ (by match q,hq with | 0,_=>rfl | 1,_=>rfl | 2,_=>rfl | 3,_=>rfl))) hb hb');have HTK:=Zh htk;obtain⟨bb,hbb⟩:∃ bb,p.set b.toNat=bb:=⟨_,rfl⟩;rw[hbb] at HH HTK;simp only at h0 h1;clear hRw hAw htk hha hp hgx hfx hx hks hpc hbb;have hal:Below wr.heap.size wr (wr.alloc (.cells #[.int .i64 (x1:Int),.int .u64 (x2:Int)] 167)):=(Below.refl _ _).alloc (Nat.le_refl _) _;have n0:(wr.alloc (.cells #[.int .i64 (x1:Int),.int .u64 (x2:Int)] 167)).cell? ⟨wr.heap.size,0,none⟩=some (.int .i64 (x1:Int)):=cell_of_row _ _ 0 _ _ (0,0) (heap_alloc_new wr _);have n1:(wr.alloc (.cells #[.int .i64 (x1:Int),.int .u64 (x2:Int)] 167)).cell? ⟨wr.heap.size,1,none⟩=some (.int .u64 (x2:Int)):=cell_of_row _ _ 1 _ _ (0,0) (heap_alloc_new wr _);have r0':=(hal.cell (p:=⟨gr,0,none⟩) hgr).trans r0;have HAL:=Zh hal;have HN0:=Zh n0;have HN1:=Zh n1;go_wp2;clear hal;generalize wr.alloc (.cells #[.int .i64 (x1:Int),.int .u64 (x2:Int)] 167)=w1 at *;go_still_tail 9,(by kernel_rfl);change wpList _ _ _ _ _ (World.drew _);cases bb
     all_goals
       go_wp2_with (first
         | (go_at_call 83;(refine (HH.out w1.drew HAL.out.drew).mono ?_);rintro e w5 ⟨rfl,hb5⟩;have h5:Below wr.heap.size wr w5:=gro HAL.out (zay hb5);have m0:w5.cell? ⟨wr.heap.size,0,none⟩=some (.int .i64 (x1:Int)):=za2 HN0.out (zay hb5);have m1:w5.cell? ⟨wr.heap.size,1,none⟩=some (.int .u64 (x2:Int)):=za2 HN1.out (zay hb5);have H5:=Zh h5;have HW5:=Zh (HWD.out.stays h5);have hs5:=h5.size;clear hb5 h5)
         | (at_builtin;refine zgb (by rfl) _ _ (by rfl) (by rfl) (HW5.out.stays ((Below.refl _ _).alloc (Nat.le_refl _) _)) (by simp;omega) hll (x1,x2) ⟨w5.heap.size,0,none⟩ 1 (by rfl) (zil w5 x1 x2) ?_;intro v6 w6 i6 g6 o6;have I6:=Zh i6;have G6:=Zh g6;have O6:=Zh o6;clear i6 g6 o6)
         | fail)
     . go_roundg (L-(k+1))
       case measure=>have:=HMK.out;omega
       case rel =>
         have ht:=HTK.out;rw[if_neg (by decide),List.append_nil] at ht;exact⟨k+1,by go_num,by omega,rfl,by rw[ht];exact HW5.out,HKP.out.trans (Kept.of_below (fun _=>False) H5.out) fun x q=>q.elim,HOWN.out⟩
     . go_roundg (L-(k+1))
       case measure=>have:=HMK.out;omega
       case rel =>
         have ht:=HTK.out;simp only[if_true] at ht;have hk6:=((HKP.out.trans (Kept.of_below (fun _=>False) H5.out) fun x q=>q.elim).alloc (.cells #[.int .i64 (x1:Int),.int .u64 (x2:Int)] 167)).grown G6.out HOWN.out;refine⟨k+1,by go_num,by omega,rfl,by rw[ht];exact I6.out,hk6,fun x e=>?_⟩;rcases O6.out with h|h
         . exact HOWN.out x (h.symm.trans e)
         . rw[e] at h;injection h with h
           have:=HKP.out.size;rw[World.size_alloc] at h;exact .inr (by omega)
   . have hkl:k=st.length:=(by rw[HL.out];omega);have hw:=HWD.out;have ho:=HOWN.out;rw[hkl,List.take_length] at hw ho ⊢;have HW:=Zh hw;have HO:=Zh ho;clear hw ho HWD HOWN;go_wp2;go_ret;exact⟨_,rfl,HW.out,HKP.out,HO.out⟩
end
end Go.Proofs.YtgbdanddbgomhaaDoor
