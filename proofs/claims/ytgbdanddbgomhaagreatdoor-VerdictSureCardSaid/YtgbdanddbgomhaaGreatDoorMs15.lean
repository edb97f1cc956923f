import Derived.Test.YtgbdanddbgomhaaGreatDoorMs14
import Derived.RangeFuncBound
import Derived.RangeFuncCalls
import Derived.RangeFuncLeaves
import Derived.Shelf.Abstract
import Derived.Shelf.RegionOpen
import Derived.OwnWalkIn
import Derived.TacticsInMore
import Derived.LoopNIn
import Derived.LoopIn
import Derived.Sort.LoopGhostIn
import Derived.Lib.BufferMore
set_option linter.unusedVariables false
set_option linter.unusedSimpArgs false
namespace Go.Proofs.YtgbdanddbgomhaaGreatDoor
open Go Go.RowKit Go.Shelf
section
attribute [local go_sem] Oper.semAt_some
abbrev UpAt (q:Nat->Bool) (M:Nat):={x:Nat // x<M∧q x=true}
theorem zht (q:Nat->Bool) (m:Nat):(upP q m).length<=m:=by
 unfold upP;exact Nat.le_trans (List.length_filter_le _ _) (by simp)
def KpW (g:Nat) (W W':World):Prop:=W.heap.size<=W'.heap.size∧W'.heap[g]?=W.heap[g]?∧W'.heap[3]?=W.heap[3]?
theorem KpW.refl (g:Nat) (W:World):KpW g W W:=⟨Nat.le_refl _,rfl,rfl⟩
theorem KpW.trans {g:Nat} {A B C:World} (h:KpW g A B) (k:KpW g B C):KpW g A C:=⟨Nat.le_trans h.1 k.1,k.2.1.trans h.2.1,k.2.2.trans h.2.2⟩
theorem KpW.tab {g:Nat} {W W':World} (h:KpW g W W') (ht:Tab W):Tab W':=⟨Nat.lt_of_lt_of_le ht.1 h.1,fun k hk=>(World.cell?_of_block (w:=W) (a:=⟨3,k,none⟩) h.2.2).trans (ht.2 k hk)⟩
theorem KpW.cell {g i:Nat} {W W':World} (h:KpW g W W'):W'.cell? ⟨g,i,none⟩=W.cell? ⟨g,i,none⟩:=World.cell?_of_block (w:=W) (a:=⟨g,i,none⟩) h.2.1
theorem kpw_b {w:World} {g:Nat} (hg:g<w.heap.size) (ht:3<w.heap.size) (W:World) (l:Nat) (o o':Obj) (hl:w.heap.size<=l) (h:W.heap[l]?=some o) (_:o.isCells=false) (_:o.isWalk=false):KpW g W (W.putObj l o'):=
 ⟨by simp[World.putObj],World.putObj_heap_other (by omega),World.putObj_heap_other (by omega)⟩
set_option maxRecDepth 20000 in
set_option maxHeartbeats 1000000 in
theorem znf (n:Nat) (hn:1<=n) (l Bn g m c:Nat) (q:Nat->Bool) (hm:m<=1000000) (J Jx:List (UpAt q (64*m))->World->Prop)
   (hY:∀ pre x W,J pre W->pre.length<64*m+1->YieldAt Fence.wide (n-1) Tryz.prog l #[.int .i64 (x.1:Int)] W fun e W' =>
     (e = .returned (.bool true)∧J (pre++[x]) W'∧KpW g W W')∨(e = .returned (.bool false)∧Jx (pre++[x]) W'))
   (W:World) (hBn:W.cell? ⟨Bn,0,none⟩=some (.slice (some ⟨g,0,none⟩) m c)) (hc:∀ i,i<m->W.cell? ⟨g,i,none⟩=some (.int .u64 (word q i))) (ht:Tab W) (h0:J [] W):
   CallsIn Fence.wide n Tryz.prog 94 #[.func (.yield l) #[] #[],.pointer (some ⟨Bn,0,none⟩)] W fun e W'=>(∃ v,e = .returned v)∧
     ((∃ ys,ys.map (·.1)=upP q (64*m)∧J ys W')∨(∃ pre,True∧Jx pre W')):=by
 refine callsIn_of_wp Tryz.func94 rfl trivial ?_ rfl;simp only[Tryz.ntmps94,List.size_toArray,List.length_cons,List.length_nil,Nat.reduceAdd,Nat.reduceSub,Array.replicate_succ,Array.replicate_zero,List.push_toArray,List.append_toArray,List.nil_append,List.cons_append];have HC:=Zh hc;have HY:=Zh hY;clear hc hY
 gi_wp2
 gi_loopg [7] m (fun m' i wr=>∃ (k:Nat) (pre:List (UpAt q (64*m))),i = .int .i64 (k:Int)∧k<=m∧m'=m-k∧pre.map (·.1)=upP q (64*k)∧KpW g W wr∧J pre wr)
 case atStart=>exact⟨0,[],rfl,Nat.zero_le _,rfl,rfl,KpW.refl _ _,h0⟩
 case round =>
   obtain⟨k,pre,rfl,hk,hmk,hpre,hkp,hJ⟩:=hrel;have HMK:=Zh hmk;have HPRE:=Zh hpre;have HKP:=Zh hkp;have HJ:=Zh hJ;clear hmk hpre hkp hJ
   by_cases hlt:k<m
   . have hcx:=HKP.out.cell.trans (HC.out k hlt)
     gi_wp2
     gi_loopg [4] 65 (fun m' x wr2=>∃ (p:Nat) (pre:List (UpAt q (64*m))),x = .int .u64 (fromP q k p:Int)∧p<=64∧m'=65-p∧pre.map (·.1)=upP q (64*k+p)∧KpW g W wr2∧J pre wr2)
     case atStart =>
       refine⟨0,pre,?_,by omega,rfl,HPRE.out,HKP.out,HJ.out⟩;rw[zgf];rfl
     case round =>
       obtain⟨p,pre2,rfl,hp,hmp,hpre2,hkp2,hJ2⟩:=hrel;have HMP:=Zh hmp;have HPRE2:=Zh hpre2;have HKP2:=Zh hkp2;have HTAB:=Zh (hkp2.tab ht);clear hmp hpre2 hkp2
       by_cases hx:fromP q k p=0
       . have hxi:((fromP q k p:Nat):Int)=0:=(by omega);have HX:=Zh (fun _:Unit=>hx);clear hx
         gi_wp2
         gi_roundg (m-(k+1))
         case measure=>have:=HMK.out;omega
         case rel =>
           have h64:upP q (64*k+64)=upP q (64*k+p):=by
             have:=ze3 (q:=q) (a:=64*k+p) (64-p) fun j h1 h2=>by
               have:=zig (HX.out ()) (j-64*k) (by omega) (by omega)
               rwa [show 64*k+(j-64*k)=j by omega] at this
             rwa [show 64*k+p+(64-p)=64*k+64 by omega] at this
           exact⟨k+1,pre2,by go_num,by omega,rfl,by rw[show 64*(k+1)=64*k+64 by omega,h64];exact HPRE2.out,HKP2.out,hJ2⟩
       . obtain⟨j,hj1,hj2,hj3,hj4,hj5,hj6⟩:=zih hx;have hxl:=zej q k p;have e1:IntKind.u64.wrap (((fromP q k p:Nat):Int)-1)=((fromP q k p-1:Nat):Int):=by
           rw[IntKind.wrap_u64];omega
         have e2:bits .and .u64 ((fromP q k p:Nat):Int) ((fromP q k p-1:Nat):Int)=((fromP q k (j+1):Nat):Int):=by
           rw[bits_and_u64_nat _ _ hxl (by omega),hj5]
         have hxi:¬ ((fromP q k p:Nat):Int)=0:=(by omega);have hlen:pre2.length<64*m+1:=by
           have h1:=congrArg List.length HPRE2.out;have h2:=zht q (64*k+p);rw[List.length_map] at h1;omega
         obtain⟨xx,hxx⟩:∃ xx:UpAt q (64*m),xx.1=64*k+j:=⟨⟨64*k+j,by omega,hj3⟩,rfl⟩;obtain⟨fn,tmps,assign,body,hy,hR⟩:=HY.out pre2 xx wr hJ2 hlen;rw[hxx] at hy
         push_cast at hy
         have HXX:=Zh hxx;have HTZ:=Zh (fun N=>(callsIn_wide (n:=N)).2 (tz_p wr (fromP q k p) j hxl hj2 hj6 HTAB.out));have HJ3:=Zh hj3;have HJ4:=Zh hj4;generalize hgx:fromP q k p=x at *;generalize hgy:fromP q k (j+1)=y at *;have HGX:=Zh (fun _:Unit=>hgx);have HGY:=Zh (fun _:Unit=>hgy);have HR:=Zh hR;have HXL:=Zh hxl;have HJ1:=Zh hj1;clear hgx hgy hj3 hj4 hj5 hj6 hJ2 hx HTAB hxx hR hxl hj1 hlen
         gi_wp2_with (refine⟨trivial,?_⟩;gi_at_call 95;refine (HTZ.out _).mono ?_;rintro e w1 ⟨rfl,rfl⟩)
         refine HR.out.mono ?_;have hup:(pre2++[xx]).map (·.1)=upP q (64*k+(j+1)):=by
           rw[List.map_append,HPRE2.out,show 64*k+(j+1)=64*k+j+1 by omega,zmm HJ3.out];have:=ze3 (q:=q) (a:=64*k+p) (j-p) fun i h1 h2=>by
             have:=HJ4.out (i-64*k) (by omega) (by omega)
             rwa [show 64*k+(i-64*k)=i by omega] at this
           rw[show 64*k+p+(j-p)=64*k+j by have:=HJ1.out;omega] at this;rw[this];simp[HXX.out]
         have HUP:=Zh hup;clear hup;rintro e W3 (⟨rfl,hJ3,hk3⟩|⟨rfl,hJx3⟩)
         . have HJ3':=Zh hJ3;have HK3:=Zh hk3;clear hJ3 hk3
           gi_wp2
           gi_roundg (65-(j+1))
           case measure=>have:=HMP.out;have:=HJ1.out;omega
           case rel =>
             have hy':=HGY.out ();exact⟨j+1,pre2++[xx],by rw[hy'],by omega,rfl,HUP.out,HKP2.out.trans HK3.out,HJ3'.out⟩
         . have HJX3:=Zh hJx3;clear hJx3
           gi_wp2
           refine bodyPost_ret (results_none rfl _ _ _) rfl ?_;exact⟨⟨_,rfl⟩,.inr ⟨_,trivial,HJX3.out⟩⟩
   . have hkm:k=m:=(by omega);have HKM:=Zh hkm;clear hkm
     gi_wp2
     go_end0;exact⟨⟨_,rfl⟩,.inl ⟨pre,by rw[HPRE.out,HKM.out],HJ.out⟩⟩
set_option maxHeartbeats 1000000 in
theorem zmb (n:Nat) (a:Option Addr) (len cap:Nat) (w:World):
   CallsIn Fence.wide n Tryz.prog 77 #[.slice a len cap] w fun e w'=>e = .returned (.func (.func 94) #[] #[.pointer (some ⟨w.heap.size,0,none⟩)])∧w'=w.alloc (.cells #[.slice a len cap] 82):=by
 refine callsIn_of_wp Tryz.func77 rfl trivial ?_ rfl;simp only[Tryz.ntmps77,List.size_toArray,List.length_cons,List.length_nil,Nat.reduceAdd,Nat.reduceSub,Array.replicate_succ,Array.replicate_zero,List.push_toArray,List.append_toArray,List.nil_append,List.cons_append]
 gi_wp2
 go_ret;exact⟨rfl,rfl⟩
theorem zfl (n:Nat) (hn:1<=n) (Bn g m c C:Nat) (q:Nat->Bool) (hm:m<=1000000) (w:World) (hBn:Bn<w.heap.size) (hcb:w.cell? ⟨Bn,0,none⟩=some (.slice (some ⟨g,0,none⟩) m c)) (hp:Pl w C (.slice (some ⟨g,0,none⟩) m c) m q) (hg:g<w.heap.size) (ht:Tab w):
   SeqStopsK Fence.wide n Tryz.prog 94 #[.pointer (some ⟨Bn,0,none⟩)] (fun x:UpAt q (64*m)=>#[Value.int .i64 (x.1:Int)]) (KpW g) (fun ys=>ys.map (·.1)=upP q (64*m)) (fun _=>True) (64*m+1) w:=fun l J Jx W hW _ _ hY h0 =>
 znf n hn l Bn g m c q hm J Jx hY W ((hW.cell (p:=⟨Bn,0,none⟩) hBn).trans hcb) (fun i hi=>(hW.cell (p:=⟨g,i,none⟩) hg).trans (hp.cell i hi)) (ht.below hW ht.1) h0
end
section
open Go Go.RowKit
attribute [local go_sem ↓] Go.wp_at_zero Go.wp_at_succ
theorem zfw (q:Nat->Bool) (m:Nat):∀ u∈wordsOf q m,u.oneCell'=true:=by
 intro u hu;simp only[wordsOf,List.mem_map] at hu;obtain⟨i,_,rfl⟩:=hu;rfl
set_option maxHeartbeats 1000000 in
theorem zgi (w:World) (C m:Nat) (v:Value) (q:Nat->Bool) (h:Pl w C v m q) (hm0:0<m) (hm:m<=1000000):
   Calls Tryz.prog 97 #[v] w (RetPl w m q):=by
 obtain⟨i0,hi,hz0,hz1,hz2⟩:=info_parts Tryz.infoWord;obtain⟨g,c,rfl,_,hg⟩:=h.form hm0;have hown:(w.alloc (.cells #[] 22)).ownsRow w.heap.size 22 1 (.slice (some ⟨w.heap.size,0,none⟩) 0 0) 0 []:=World.ownsRow_lit w #[] 0 (Nat.le_refl _) (by decide) rfl;have hnews:∀ j u,(wordsOf q m)[j]?=some u->(w.alloc (.cells #[] 22)).cell? ((⟨g,0,none⟩:Addr).add j)=some u:=by
   intro j u hu;have hj:j<m:=by
     rcases Nat.lt_or_ge j m with h' | h'
     . exact h'
     . rw[List.getElem?_eq_none (by rw[zao];exact h')] at hu;cases hu
   rw[zb3 q m j hj] at hu;have hu':=Option.some.inj hu;rw[←hu'];have e:(⟨g,0,none⟩:Addr).add j=⟨g,j,none⟩:=by unfold Addr.add;split <;> simp_all
   rw[e];exact za2 (h.cell j hj) ((Below.refl _ _).alloc (Nat.le_refl _) _)
 have HO:=Zh hown;have HN:=Zh hnews;have hnil:∀ W,(binOp .eql 82 (.slice (some ⟨g,0,none⟩) m c) (.slice none 0 0)).run Tryz.prog W = .ok (.bool false) W:=fun W=>Lib.run_eql_slice_some_nil W _ _ _ Tryz.underlying82
 clear hown hnews h;go_enter Tryz.func97,Tryz.ntmps97;go_wp2_with (at_builtin;refine wpList_append_own _ rfl _ _ 82 rfl w.heap.size 22 i0 (.int .u64 0) 1 8 Tryz.underlying82 hi hz0 hz1 hz2 rfl (by decide) _ _ _ rfl HO.out ⟨g,0,none⟩ m c (wordsOf q m) rfl (by rw[zao,Nat.mul_one]) HN.out (zfw q m) ?c3 ?c4 ?c5 ?_)
 case c3=>unfold maxLen;omega
 case c4=>omega
 case c5=>simp
 . intro v' w2 hown' hgrow _;have HO2:=Zh hown';have hB2:Below w.heap.size w w2:=((Below.refl _ _).alloc (Nat.le_refl _) _).grown hgrow (by simp) (fun j e=>((HO.out).lt j e).1);clear hgrow hown';go_wp2;go_ret;refine⟨v',rfl,?_,hB2⟩;exact HO2.out
set_option maxHeartbeats 1000000 in
theorem zn4 (w:World) (B C m:Nat) (v v2:Value) (q r:Nat->Bool) (h:Pl w B v m q) (h2:Pl w C v2 m r) (hm0:0<m) (hm:m<=1000000):
   Calls Tryz.prog 96 #[v,v2] w fun e w'=>∃ b:Bool,e = .returned (.bool b)∧(b=true↔∀ i,i<m->word q i=word r i)∧Below w.heap.size w w':=by
 obtain⟨g,c,rfl,_,_⟩:=h.form hm0;obtain⟨g2,c2,rfl,_,_⟩:=h2.form hm0;have H1:=Zh h;have H2:=Zh h2;clear h h2;go_enter Tryz.func96,Tryz.ntmps96;go_wp2;go_loopg [13] m (fun m' i wr=>∃ j:Nat,i = .int .i64 (j:Int)∧j<=m∧m'=m-j∧(∀ k,k<j->word q k=word r k)∧Below w.heap.size w wr)
 case atStart=>exact⟨0,rfl,Nat.zero_le _,rfl,fun k hk=>by omega,Below.refl _ _⟩
 case round =>
   obtain⟨j,rfl,hj,hmj,hz,hW⟩:=hrel;have HMJ:=Zh hmj;have HZ:=Zh hz;clear hmj hz
   by_cases hlt:j<m
   . have hc:=(H1.out.stays hW).cell j hlt;have hc2:=(H2.out.stays hW).cell j hlt;have j0:(0:Int)<=(j:Int):=(by omega);have j1:(j:Int)<(m:Int):=(by omega);cases hb:(word q j != word r j)
     . go_wp2_with fail;go_quiet (fail);go_wp2;go_roundg (m-(j+1))
       case measure=>have:=HMJ.out;omega
       case rel =>
         refine⟨j+1,by go_num,by omega,rfl,fun k hk=>?_,below_drewN hW _⟩
         by_cases hk2:k<j
         . exact HZ.out k hk2
         . have:k=j:=by omega
           subst this
           simpa using hb
     . go_wp2_with fail;go_quiet (fail);go_wp2;go_ret;refine⟨false,rfl,⟨fun h=>(by cases h),fun h=>?_⟩,below_drewN hW _⟩;rw[h j hlt] at hb;simp at hb
   . go_wp2;go_ret;exact⟨true,rfl,⟨fun _ k hk=>HZ.out k (by omega),fun _=>rfl⟩,hW⟩
set_option maxHeartbeats 1000000 in
theorem zet (w:World) (B C m:Nat) (v v2:Value) (q r:Nat->Bool) (h:Pl w B v m q) (h2:Pl w C v2 m r) (hm0:0<m) (hm:m<=1000000):
   Calls Tryz.prog 98 #[v,v2] w (RetPl w m (minusP q r)):=by
 obtain⟨g2,c2,rfl,_,hg4⟩:=h2.form hm0;have H2:=Zh h2;have HC:=Zh (zgi w B m v q h hm0 hm);unfold RetPl at HC;clear h h2;go_enter Tryz.func98,Tryz.ntmps98;go_wp2_with (go_at_call 97;(with_reducible refine HC.out.mono ?_);rintro e w1 ⟨v1,rfl,hv1,hb1⟩;obtain⟨g,c,rfl,hg1,hg2⟩:=hv1.form hm0;have HV:=Zh hv1;clear hv1);obtain⟨w4,hw4⟩:∃ w4,w4=w1:=⟨_,rfl⟩;rw[←hw4] at HV hb1 hg2 ⊢;clear hw4;go_loopg [12] m (fun m' i wr=>∃ j:Nat,i = .int .i64 (j:Int)∧j<=m∧m'=m-j∧Pl wr w.heap.size (.slice (some ⟨g,0,none⟩) m c) m (mixP q (minusP q r) j)∧Below w.heap.size w wr)
 case atStart=>exact⟨0,rfl,Nat.zero_le _,rfl,HV.out.congr fun i hi=>(zdm _ _ _ _ (Nat.zero_le _)).symm,hb1⟩
 case round =>
   obtain⟨j,rfl,hj,hmj,hpl,hW⟩:=hrel;have HMJ:=Zh hmj;have HPL:=Zh hpl;clear hmj hpl
   by_cases hlt:j<m
   . have hc:=HPL.out.cell j hlt;have hf:=HPL.out.frozen j;rw[zdm _ _ _ _ (Nat.le_refl _)] at hc;have hc2:=(H2.out.stays hW).cell j hlt;have HO:=Zh (zga q r j);have hst:=HPL.out.set (q':=mixP q (minusP q r) (j+1)) j hlt (fun i hi=>zh2 _ _ j i hi);rw[zdl _ _ _ _ (Nat.lt_succ_self j)] at hst;have HST:=Zh hst;clear hst;go_wp2;go_roundg (m-(j+1))
     case measure=>have:=HMJ.out;omega
     case rel =>
       rw[HO.out];exact⟨j+1,by go_num,by omega,rfl,HST.out.1,hW.grown HST.out.2 hW.size (fun k e=>by injection e with e;omega)⟩
   . have hjm:j=m:=(by omega);go_wp2;go_ret;exact⟨_,rfl,HPL.out.congr fun i hi=>zdl _ _ _ _ (by omega),hW⟩
end
end Go.Proofs.YtgbdanddbgomhaaGreatDoor
