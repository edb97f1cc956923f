import Derived.Test.YtgbdanddbgomhaaGreatDoorMv21
import Derived.Deep.CutRange
import Derived.Deep.CutBlock
set_option linter.unusedVariables false
set_option linter.unusedSimpArgs false
namespace Go.Proofs.YtgbdanddbgomhaaGreatDoor
open Go Go.RowKit
section
attribute [local go_sem ↓] Go.wp_at_zero Go.wp_at_succ
theorem Ints.lower {w:World} {B B':Nat} {v:Value} {l:List Int} (h:Ints w B v l) (hB:B'<=B):Ints w B' v l:=zd6 h hB
theorem Lists.bound {P:Nat->Prop} {l:List Int} (h:Lists P l) (j:Nat) (hj:j<l.length):∃ y:Nat,l[j]=(y:Int)∧P y:=(h.2 _).1 (List.getElem_mem hj)
set_option maxRecDepth 20000 in
set_option maxHeartbeats 4000000 in
theorem zpq {N:Nat} (ih:EndsFor N) {w:World} {ok:Nat->Prop} {t:T} {k:Value} {xs:List Int} {A:Option Addr} {i c:Nat} (hN:SizeOf.sizeOf t<=N+1) (h:EndsAsk w ok t k xs A i) (h2:t.op=2):
   Calls Tryz.prog 47 #[nodeP t k,.slice A xs.length c,.int .i64 i] w (RetEnds w (E xs t i)):=by
 have hE:∀ j,E xs t i j↔ECat xs t.kids i j:=by
   intro j;cases t with
   | mk op p lo hi l =>
     have e:op=2:=h2;subst e;exact zoj
 obtain⟨A',n',c',rfl⟩:=h.tree.form;obtain⟨hn,hm⟩:=h.tree.bound;have hkl:=h.wf.len;rw[←hn] at hkl;unfold maxLen at hm;have hb1:(t.op==1)=false:=(by simp[h2]);have hb2:(t.op==2)=true:=(by simp[h2]);have hb3:(t.op==3)=false:=(by simp[h2]);have hb4:(t.op==4)=false:=(by simp[h2]);have hlen:=h.len;have hile:=h.le;have hn0:0<t.kids.length:=by
   rcases h.wf.op_cases with h' | h' | h' | h' <;> omega
 have hbd:∀ (l:List T),l ⊆ t.kids->∀ i' j,i'<=xs.length->ECat xs l i' j->j<=xs.length:=fun l=>by
   induction l with
   | nil=>intro _ i' j hi' he;have e:i'=j:=he;omega
   | cons u l ihl =>
     intro hl i' j hi' he;obtain⟨y,e1,e2⟩:=he;have hy:=(E_bd (h.wf.kid (hl (by simp))) i' y hi' e1).2;exact ihl (fun z hz=>hl (by simp[hz])) y j hy e2
 have b1:=Box8.new w t (.slice A' n' c');have hB:Below w.heap.size w (w.alloc (.cells #[.int .i64 t.op,.int .u64 (word t.set 0),.int .u64 (word t.set 1),.int .u64 (word t.set 2),.int .u64 (word t.set 3),.int .i64 t.lo,.int .i64 t.hi,.slice A' n' c'] 41)):=(Below.refl _ _).alloc (Nat.le_refl _) _;obtain⟨g0,B0,l1,l2,e0,hg0,htk0,hcells0⟩:=kid8 h.tree 0 (List.getElem?_eq_getElem hn0);subst e0;generalize t.kids[0]=u0 at *;have HE:=Zh hE;have HN:=Zh hn;have HH:=Zh h;have IH:=Zh ih;have HB1:=Zh b1;have HBD:=Zh hbd;have HC0:=Zh hcells0;have HN0:=Zh hn0;unfold EndsFor at IH;clear hE h2 hn h ih b1 hbd hcells0 htk0 hn0;generalize hL:xs.length=L at *;have HL:=Zh hL;clear hL;unfold nodeP;go_enter Tryz.func47,Tryz.ntmps47;go_wp2;have hW0:Below w.heap.size w ((w.alloc (.cells #[.int .i64 t.op,.int .u64 (word t.set 0),.int .u64 (word t.set 1),.int .u64 (word t.set 2),.int .u64 (word t.set 3),.int .i64 t.lo,.int .i64 t.hi,.slice (some ⟨g0,0,none⟩) n' c'] 41)).alloc (.cells #[.int .i64 i] 3)):=hB.alloc hB.size _;have hI0:Ints ((w.alloc (.cells #[.int .i64 t.op,.int .u64 (word t.set 0),.int .u64 (word t.set 1),.int .u64 (word t.set 2),.int .u64 (word t.set 3),.int .i64 t.lo,.int .i64 t.hi,.slice (some ⟨g0,0,none⟩) n' c'] 41)).alloc (.cells #[.int .i64 i] 3)) (w.heap.size+1) (.slice (some ⟨w.heap.size+1,0,none⟩) 1 1) [(i:Int)]:=by
   have h:=World.ownsRow_lit (base:=w.heap.size+1) (e:=3) (size:=1) (w.alloc (.cells #[.int .i64 t.op,.int .u64 (word t.set 0),.int .u64 (word t.set 1),.int .u64 (word t.set 2),.int .u64 (word t.set 3),.int .i64 t.lo,.int .i64 t.hi,.slice (some ⟨g0,0,none⟩) n' c'] 41)) #[.int .i64 (i:Int)] 1 (by simp) (by decide) rfl;rw[World.size_alloc] at h;exact h
 go_loopg [12,13,15] n' (fun m o out i' wr=>∃ (j:Nat) (ln:List Int),i' = .int .i64 (j:Int)∧out = .slice none 0 0∧j<=n'∧m=n'-j∧Ints wr (w.heap.size+1) o ln∧Lists (ECat xs (t.kids.take j) i) ln∧Box8 wr w.heap.size t (.slice (some ⟨g0,0,none⟩) n' c')∧Below w.heap.size w wr)
 case atStart=>exact⟨0,[(i:Int)],rfl,rfl,Nat.zero_le _,rfl,hI0,(Lists.one i).congr fun j=>by simp[ECat];exact eq_comm,HB1.out.alloc _,hW0⟩
 case round =>
   obtain⟨j,ln,rfl,rfl,hj,hmj,hown,hls,x1,hW⟩:=hrel;have HMJ:=Zh hmj;have HLS:=Zh hls;have HOWN:=Zh hown;have hnl:ln.length<=L+1:=hls.len fun x hx=>HBD.out _ (List.take_subset _ _) i x hile hx
   obtain⟨An,cn,hform⟩:=hown.form;subst hform;obtain⟨c0,c1,c2,c3,c4,c5,c6,c7⟩:=x1.cell;have HX1:=Zh x1;clear hmj hown hls x1
   by_cases hlt:j<n'
   . have hlt':j<t.kids.length:=(by rw[←HN.out];exact hlt);obtain⟨g,B,m1,m2,e1,hg1,htk,hcells⟩:=kid8 HH.out.tree j (List.getElem?_eq_getElem hlt');injection e1 with e1
     injection e1 with e1
     subst e1;have hks:=zas t j hlt';have hum:t.kids[j]'hlt'∈t.kids:=List.getElem_mem hlt';have hst:=zfb (xs:=xs) t.kids j hlt' i;generalize t.kids[j]=u at *;have HCk:∀ q v,(nodeC u (.slice B m1 m2))[q]?=some v->wr.cell? ⟨g0,j*8+q,none⟩=some v:=fun q v h=>by rw[Nat.mul_comm j 8];exact (hW.cell (p:=⟨g0,8*j+q,none⟩) hg1).trans (hcells q v h)
     have HCz:∀ q v,(nodeC u0 (.slice B0 l1 l2))[q]?=some v->wr.cell? ⟨g0,q,none⟩=some v:=fun q v h=>by
       have:=(hW.cell (p:=⟨g0,8*0+q,none⟩) hg1).trans (HC0.out q v h)
       rwa [Nat.mul_zero,Nat.zero_add] at this
     have k0:wr.cell? ⟨g0,j*8,none⟩=_:=HCk 0 _ rfl;have k1:=HCk 1 _ rfl;have k2:=HCk 2 _ rfl;have k3:=HCk 3 _ rfl;have k4:=HCk 4 _ rfl;have k5:=HCk 5 _ rfl;have k6:=HCk 6 _ rfl;have k7:=HCk 7 _ rfl;have z0:=HCz 0 _ rfl;have z1:=HCz 1 _ rfl;have z2:=HCz 2 _ rfl;have z3:=HCz 3 _ rfl;have z4:=HCz 4 _ rfl;have z5:=HCz 5 _ rfl;have z6:=HCz 6 _ rfl;have z7:=HCz 7 _ rfl;have HST:=Zh hst;have HTK:=Zh htk;have hg2:g0<wr.heap.size:=Nat.lt_of_lt_of_le hg1 hW.size;have hw2:w.heap.size<wr.heap.size:=HX1.out.lt;clear HCk HCz hcells htk hst;generalize hln:ln.length=M at *;have HLN:=Zh hln;clear hln;have bk:=Box8.new wr u (.slice B m1 m2);have hb3:Below wr.heap.size wr (wr.alloc (.cells #[.int .i64 u.op,.int .u64 (word u.set 0),.int .u64 (word u.set 1),.int .u64 (word u.set 2),.int .u64 (word u.set 3),.int .i64 u.lo,.int .i64 u.hi,.slice B m1 m2] 41)):=(Below.refl _ _).alloc (Nat.le_refl _) _;go_upto_region 30 with fail
     clear k0 k1 k2 k3 k4 k5 k6 k7 z0 z1 z2 z3 z4 z5 z6 z7 c0 c1 c2 c3 c4 c5 c6 c7;generalize wr.alloc (.cells #[.int .i64 u.op,.int .u64 (word u.set 0),.int .u64 (word u.set 1),.int .u64 (word u.set 2),.int .u64 (word u.set 3),.int .i64 u.lo,.int .i64 u.hi,.slice B m1 m2] 41)=w3 at *;have hW3:=gro hW hb3;have hI3:=HOWN.out.stays hb3;have x3:=HX1.out.stays hb3;have t3:=(HTK.out.stays hW).stays hb3;have a3:EndsAsk w3 ok u (.slice B m1 m2) xs A 0:=HH.out.kid hum HTK.out hW3 (by omega);obtain⟨c0,c1,c2,c3,c4,c5,c6,c7⟩:=x3.cell;have BK:=Zh bk;have HI3:=Zh hI3;have HX3:=Zh x3;have HA3:=Zh a3;clear bk hI3 x3 t3 a3 HTK HOWN HX1 hum hb3 hW;generalize wr.heap.size=Kb at *;go_wp2;clear c0 c1 c2 c3 c4 c5 c6 c7;go_loopg [18,19] M (fun m' nx kk wq=>∃ (q:Nat) (lx:List Int),kk = .int .i64 (q:Int)∧q<=M∧m'=M-q∧Ints wq w3.heap.size nx lx∧Lists (fun x=>∃ y:Nat,(y:Int)∈ln.take q∧E xs u y x) lx∧Below w3.heap.size w3 wq)
     case atStart=>exact⟨0,[],rfl,Nat.zero_le _,rfl,Ints.nil _ _,Lists.nil.congr fun x=>⟨fun h=>h.elim,fun ⟨y,hy,_⟩=>by simp at hy⟩,Below.refl _ _⟩
     case round =>
       obtain⟨q,lx,rfl,hq,hmq,hnx,hlx,hWq⟩:=hrel;have HMQ:=Zh hmq;have HNX:=Zh hnx;have HLX:=Zh hlx;clear hmq hnx hlx
       by_cases hqt:q<M
       . have hqt':q<ln.length:=(by rw[HLN.out];exact hqt);obtain⟨gn,cn',e2,_,_,hc2⟩:=(HI3.out.stays hWq).at q hqt';injection e2 with e3 e4 e5
         subst e3 e5;clear e4;obtain⟨y,hy,hPy⟩:=HLS.out.bound q hqt';have hyL:y<=L:=HBD.out _ (List.take_subset _ _) i y hile hPy;rw[hy] at hc2;have hsnoc:∀ z:Nat,(z:Int)∈ln.take (q+1)↔(z:Int)∈ln.take q∨z=y:=by
           intro z;rw[List.take_succ_eq_append_getElem hqt',hy];simp only[List.mem_append,List.mem_singleton];constructor
           . rintro (h|h)
             . exact .inl h
             . exact .inr (by omega)
           . rintro (h|h)
             . exact .inl h
             . exact .inr (by omega)
         have HSN:=Zh hsnoc;obtain⟨b0,b1,b2,b3,b4,b5,b6,b7⟩:=(BK.out.stays hWq).cell;have q0:(0:Int)<=(q:Int):=(by omega);have q1:(q:Int)<(M:Int):=(by omega);have hlxl:lx.length<=L+1:=HLX.out.len fun x hx=>by
           obtain⟨z,hz,hE⟩:=hx;have hz2:(z:Int)∈ln:=List.mem_of_mem_take hz;obtain⟨z',e,hP⟩:=(HLS.out.2 _).1 hz2;have ez:z=z':=(by omega);subst ez;have:=HBD.out _ (List.take_subset _ _) i z hile hP;have:=(E_bd HA3.out.wf z x (by rw[HL.out];exact this) hE).2;rw[HL.out] at this;exact this
         have hub:∀ x,E xs u y x->x<=L:=fun x hx=>by
           have:=(E_bd HA3.out.wf y x (by rw[HL.out];exact hyL) hx).2;rw[HL.out] at this;exact this
         have HUB:=Zh hub;have hcall:∀ W,Below wr.heap.size wr W->Calls Tryz.prog 47 #[nodeP u (.slice B m1 m2),.slice A L c,.int .i64 y] W (fun e w5=>∃ Al cl l,e = .returned (.slice Al l.length cl)∧Two w5 w3.heap.size u18 lx W.heap.size (.slice Al l.length cl) l∧Below w3.heap.size w3 w5∧l.length<=L+1∧Lists (E xs u y) l):=fun W hbW=>by
           have ha:EndsAsk W ok u (.slice B m1 m2) xs A y:=⟨HA3.out.wf,(HA3.out.tree.stays hWq).stays hbW,((HA3.out.rd.below hWq).below (hbW.mono hWq.size)).more (Nat.le_trans hWq.size hbW.size),HA3.out.byte,HA3.out.len,by rw[HL.out];exact hyL⟩;have hc:=IH.out u W ok (.slice B m1 m2) xs A y c (by omega) ha;rw[HL.out] at hc;refine hc.mono fun e w5 h5=>?_
           obtain⟨vl,l,he,hvl,hlsl,hb5⟩:=h5;obtain⟨Al,cl,hform⟩:=hvl.form;subst hform;exact⟨Al,cl,l,he,Two.start (HNX.out.stays hbW) hb5 hvl,gro (gro hWq hbW) hb5,hlsl.len HUB.out,hlsl⟩
         unfold nodeP at hcall;have HK:=Zh hcall;clear hsnoc hub hcall hPy hyL;go_wp2_with fail;go_still_tail 6,(by kernel_rfl);change wpList _ _ _ _ _ wr.drew;go_wp2_with (go_at_call 47;(with_reducible refine (HK.out wr.drew ((Below.refl _ _).drew)).mono ?_);rintro e w5 ⟨Al,cl,l,rfl,htwo,hW5,hll,hlsl⟩;have HLSL:=Zh hlsl;clear hlsl);have HTWO:=Zh htwo;clear htwo b0 b1 b2 b3 b4 b5 b6 b7 hc2;generalize hll2:l.length=M2 at *;generalize wr.drew.heap.size=C at HTWO;have HLL:=Zh hll2;clear hll2;go_loopg [18,21] M2 (fun m' o' kk wq=>∃ r:Nat,kk = .int .i64 (r:Int)∧r<=M2∧m'=M2-r∧Two wq w3.heap.size o' (addAll lx (l.take r)) C (.slice Al M2 cl) l∧Below w3.heap.size w3 wq)
         case atStart=>exact⟨0,rfl,Nat.zero_le _,rfl,HTWO.out,hW5⟩
         case round =>
           obtain⟨r,rfl,hr,hmr,htw,hWr⟩:=hrel;have HMR:=Zh hmr;have HTW:=Zh htw;clear hmr htw
           by_cases hrt:r<M2
           . have hrt':r<l.length:=(by rw[HLL.out];exact hrt);obtain⟨gl,cl',e2,_,_,hc2⟩:=HTW.out.one.at r hrt';injection e2 with e3 e4 e5
             subst e3 e5;clear e4;have hat:=zax lx l r hrt';generalize l[r]'hrt'=x at *;have HAT:=Zh hat;have hsz:(addAll lx (l.take r)).length<=1000000:=by
               have h1:=zaz (l.take r) lx;rw[List.length_take] at h1;omega
             have HADD:=Zh (ziv wr w3.heap.size u18 (addAll lx (l.take r)) x HTW.out.out hWr.size hsz);clear hat hsz;unfold RetAdd at HADD;go_wp2_with (go_at_call 74;(with_reducible refine HADD.out.mono ?_);rintro e w6 ⟨v6,rfl,hi6,hg6,hv6⟩);go_roundg (M2-(r+1))
             case measure=>have:=HMR.out;omega
             case rel =>
               refine⟨r+1,by go_num,by omega,rfl,?_,hWr.grown hg6 hWr.size (zem HTW.out.out)⟩;rw[HAT.out];exact HTW.out.added hi6 hg6 hv6
           . have hqn:l.take r=l:=List.take_of_length_le (by rw[HLL.out];omega);rw[hqn] at HTW;go_wp2;go_roundg (M-(q+1))
             case measure=>have:=HMQ.out;omega
             case rel =>
               refine⟨q+1,addAll lx l,by go_num,by omega,rfl,HTW.out.out,(HLX.out.add HLSL.out).congr fun x=>?_,hWr⟩;constructor
               . rintro (⟨z,h1,h2⟩|h2)
                 . exact⟨z,(HSN.out z).2 (.inl h1),h2⟩
                 . exact⟨y,(HSN.out y).2 (.inr rfl),h2⟩
               . rintro⟨z,h1,h2⟩;rcases (HSN.out z).1 h1 with h1|rfl
                 . exact .inl ⟨z,h1,h2⟩
                 . exact .inr h2
       . have hqn:ln.take q=ln:=List.take_of_length_le (by rw[HLN.out];omega);rw[hqn] at HLX;have HNEW:Hid (Lists (ECat xs (t.kids.take (j+1)) i) lx):=HLX.out.congr fun x=>by
           rw[HST.out];constructor
           . rintro⟨y,h1,h2⟩;obtain⟨y',e,hP⟩:=(HLS.out.2 _).1 h1;have ey:y=y':=(by omega);subst ey;exact⟨y,hP,h2⟩
           . rintro⟨y,h1,h2⟩;exact⟨y,(HLS.out.2 _).2 ⟨y,rfl,h1⟩,h2⟩
         obtain⟨Ax,cx,hfx⟩:=HNX.out.form;subst hfx;generalize hxl:lx.length=X at *;have HXL:=Zh hxl;clear hqn hxl;have hlxl:X<=L+1:=by
           rw[←HXL.out];exact HNEW.out.len fun x hx=>HBD.out _ (List.take_subset _ _) i x hile hx
         go_wp2;obtain⟨w4,hw4⟩:∃ w4,w4=wr:=⟨_,rfl⟩;rw[←hw4] at HNX hWq ⊢;clear hw4;have HI4:=Zh (HI3.out.stays hWq);have HX4:=Zh (HX3.out.stays hWq);have HW4:=Zh (gro hW3 hWq);go_loopg [22,23] M (fun m' st kk wq=>∃ (r:Nat) (b:Bool),kk = .int .i64 (r:Int)∧st = .bool b∧r<=M∧m'=M-r∧(b=true->M=X∧∀ k,k<r->ln[k]?=lx[k]?)∧Below w4.heap.size w4 wq)
         case atStart=>exact⟨0,_,rfl,rfl,Nat.zero_le _,rfl,fun e=>⟨by have e':=of_decide_eq_true e;omega,fun k hk=>by omega⟩,Below.refl _ _⟩
         case round =>
           obtain⟨r,b,rfl,rfl,hr,hmr,heq,hWr⟩:=hrel;have HMR:=Zh hmr;have HEQ:=Zh heq;clear hmr heq;obtain⟨c0,c1,c2,c3,c4,c5,c6,c7⟩:=(HX4.out.stays hWr).cell;cases b
           . by_cases hrt:r<M
             all_goals
               go_wp2;go_roundg (n'-(j+1))
               case measure=>have:=HMJ.out;omega
               case rel=>exact⟨j+1,lx,by go_num,rfl,by omega,rfl,(HNX.out.stays hWr).lower (by have:=BK.out.lt;omega),HNEW.out,HX4.out.stays hWr,gro HW4.out hWr⟩
           . have hMX:=(HEQ.out rfl).1;have HPRE:=Zh (HEQ.out rfl).2
             by_cases hrt:r<M
             . have hr1:r<ln.length:=(by rw[HLN.out];exact hrt);have hr2:r<lx.length:=(by rw[HXL.out];omega);obtain⟨ga,ca,e2,_,_,hca⟩:=(HI4.out.stays hWr).at r hr1;have HNX2:=HNX.out.stays hWr;rw[←HXL.out] at HNX2;obtain⟨gb,cb,e6,_,_,hcb⟩:=HNX2.at r hr2;injection e2 with e3 e4 e5
               injection e6 with e7 e8 e9
               subst e3 e5 e7 e9;clear e4 e8 HNX2;have h1:=List.getElem?_eq_getElem hr1;have h2:=List.getElem?_eq_getElem hr2;generalize ln[r]'hr1=x1 at *;generalize lx[r]'hr2=x2 at *;have H1:=Zh h1;have H2:=Zh h2;have HMX:=Zh hMX;have r0:(0:Int)<=(r:Int):=(by omega);have r1:(r:Int)<(M:Int):=(by omega);have r2:(r:Int)<(X:Int):=(by omega);clear h1 h2 hMX;go_wp2_with fail;go_quiet (fail);go_wp2;go_roundg (M-(r+1))
               case measure=>have:=HMR.out;omega
               case rel =>
                 refine⟨r+1,x1==x2,by go_num,rfl,by omega,rfl,fun e=>⟨HMX.out,fun k hk=>?_⟩,below_drewN hWr _⟩
                 by_cases hkr:k<r
                 . exact HPRE.out k hkr
                 . have hkr':k=r:=(by omega);subst hkr';rw[H1.out,H2.out];have:=eq_of_beq e;rw[this]
             . all_goals
               go_wp2;go_roundg (n'-(j+1))
               case measure=>have:=HMJ.out;omega
               case rel=>exact⟨j+1,lx,by go_num,rfl,by omega,rfl,(HNX.out.stays hWr).lower (by have:=BK.out.lt;omega),HNEW.out,HX4.out.stays hWr,gro HW4.out hWr⟩
   . have hjn:j=t.kids.length:=(by rw[←HN.out];omega);have hwhole:t.kids.take j=t.kids:=(by rw[hjn];exact List.take_length);rw[hwhole] at HLS;have hI5:=HOWN.out;generalize hln:ln.length=M at *;have HLN:=Zh hln;have HI5:=Zh hI5;clear hln hjn hwhole hI5 HOWN;go_wp2;obtain⟨w4,hw4⟩:∃ w4,w4=wr:=⟨_,rfl⟩;rw[←hw4] at HI5 HX1 hW ⊢;clear hw4 c0 c1 c2 c3 c4 c5 c6 c7;go_loopg [13,24] M (fun m' o' kk wq=>∃ r:Nat,kk = .int .i64 (r:Int)∧r<=M∧m'=M-r∧Ints wq w4.heap.size o' (addAll [] (ln.take r))∧Below w4.heap.size w4 wq)
     case atStart=>exact⟨0,rfl,Nat.zero_le _,rfl,Ints.nil _ _,Below.refl _ _⟩
     case round =>
       obtain⟨r,rfl,hr,hmr,hout,hWr⟩:=hrel;have HMR:=Zh hmr;have HOUT:=Zh hout;clear hmr hout
       by_cases hrt:r<M
       . have hrt':r<ln.length:=(by rw[HLN.out];exact hrt);obtain⟨gl,cl',e2,_,_,hc2⟩:=(HI5.out.stays hWr).at r hrt';injection e2 with e3 e4 e5
         subst e3 e5;clear e4;have hat:=zax [] ln r hrt';generalize ln[r]'hrt'=x at *;have HAT:=Zh hat;have hsz:(addAll [] (ln.take r)).length<=1000000:=by
           have h1:=zaz (ln.take r) [];rw[List.length_take] at h1;simp only[List.length_nil] at h1;omega
         have HADD:=Zh (ziv wr w4.heap.size u13 (addAll [] (ln.take r)) x HOUT.out hWr.size hsz);clear hat hsz;unfold RetAdd at HADD;go_wp2_with (go_at_call 74;(with_reducible refine HADD.out.mono ?_);rintro e w6 ⟨v6,rfl,hi6,hg6,hv6⟩);go_roundg (M-(r+1))
         case measure=>have:=HMR.out;omega
         case rel =>
           refine⟨r+1,by go_num,by omega,rfl,?_,hWr.grown hg6 hWr.size (zem HOUT.out)⟩;rw[HAT.out];exact hi6
       . have hqn:ln.take r=ln:=List.take_of_length_le (by rw[HLN.out];omega);rw[hqn] at HOUT;go_wp2;go_ret;refine⟨_,addAll [] ln,rfl,HOUT.out.lower (by have:=hW.size;omega),(Lists.nil.add HLS.out).congr fun x=>?_,gro hW hWr⟩;rw[HE.out];simp
end
end Go.Proofs.YtgbdanddbgomhaaGreatDoor
