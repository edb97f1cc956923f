import Derived.Test.YtgbdanddbgomhaaDoorMw12
import Derived.Deep.RegionHeld
import Derived.Deep.Cut
set_option linter.unusedVariables false
set_option linter.unusedSimpArgs false
namespace Go.Proofs.YtgbdanddbgomhaaDoor
open Go Go.RowKit Go.Maps
section
attribute [local go_sem ↓] Go.wp_at_zero Go.wp_at_succ
attribute [local go_sem ↓] zeq
def RetMeet (w:World) (K:Nat->Prop) (gs:Nat) (ss:List Sta) (st:Sta) (e:Ending) (w':World):Prop:=
 ∃ (i:Nat) (ss':List Sta) (K':Nat->Prop),e = .returned (.int .i64 i)∧ss'[i]?=some st∧(ss'=ss∨(st∉ss∧ss'=ss++[st]))∧Known w' K' gs ss'∧(∀ b,K' b->K b∨w.heap.size<=b)∧Kept K w w'
theorem zum:Keyed Tryd.prog 9:=string_keyed Tryd.underlying9
theorem Tryd.zeroIntM (w:World):(zeroValue 3).run Tryd.prog w = .ok (.int .i64 0) w:=by kernel_rfl
theorem Tryd.infoSlM:(Tryd.prog.info? 119).map (fun i=>(i.zero,i.size,i.bytes))=some (some (.slice none 0 0),1,24):=by kernel_rfl
theorem zwa (x:Int) (h0:0<=x) (h1:x<=100000):(Lit.int .i64 x).wf=true:=by
 have e1:IntKind.i64.min = -9223372036854775808:=(by decide);have e2:IntKind.i64.max=9223372036854775807:=by decide
 show (decide (IntKind.i64.min<=x)&&decide (x<=IntKind.i64.max))=true
 rw[e1,e2];simp;omega
theorem zw2 {w:World} {B:Nat} {v:Value} {s:Sta} (h:Bts w B v (keyB s)):Bys w B v (keyI s):=by
 unfold Bts at h;unfold Bys;have e:(keyI s).map (Value.int .u8)=bytesV (keyB s):=(by simp[keyI,bytesV]);rw[e,show (keyI s).length=(keyB s).length by simp[keyI]];exact h
set_option maxRecDepth 20000 in
theorem zly {w:World} {bm n:Nat} {D:DataW Unit} (h:w.ownsMap (H:=Unit) Tryd.prog 9 (plainElem Tryd.prog 3) bm n D) {s:Sta} (hs:s.length<=100000) {c:Int} (hc:D.atKey (litK s) (.lit (.int .i64 0)) = .lit (.int .i64 c)):
   (Instr.lookup 114 (.map (some bm)) (.string (keyS s)) true).run Tryd.prog w = .ok (.tuple #[.int .i64 c,.bool (Maps.has D (litK s))]) w:=by
 obtain⟨v,ps,hrun,hv⟩:=h.look_ok zum Tryd.underlying114 (Tryd.zeroIntM w) (plainElem_int Tryd.underlying3 (a:=0) (by decide)) (Go.WideMaps.keyOf_string_mk Tryd.underlying9 (s:=keyS s) (by rw[zji];unfold maxLen;omega));obtain⟨a,rfl,h2,_⟩:=plainElem_int_inv Tryd.underlying3 hv;have h3:D.atKey (litK s) (.lit (.int .i64 0)) = .lit (.int .i64 a):=congrArg Prod.fst h2;rw[hc] at h3;injection h3 with h3
 injection h3 with _ h3
 subst h3;exact hrun
set_option maxRecDepth 20000 in
set_option maxHeartbeats 2000000 in
theorem zqb {w:World} {K:Nat->Prop} {gs D0:Nat} {ss:List Sta} {va0:Value} {st:Sta} (hk:Known w K gs ss) (ha:Wds w D0 va0 st) (hap:∀ b,va0.ownBlock=some b->¬ K b) (hst:okSt st) (hl:st.length<=100000) (hn:ss.length<=100000):
   Calls Tryd.prog 49 #[.pointer (some ⟨gs,0,none⟩),va0] w (RetMeet w K gs ss st):=by
 obtain⟨va,bm,vs,D,h1,h2,h3,h4,h5,h6,k1,k2,k3,k4⟩:=hk.mem;have hkey:=zwo ha hl hst;have HKEY:=Zh hkey;obtain⟨As,cs,rfl⟩:=zam h3;have hA0:=ha;obtain⟨A0,c0,rfl⟩:=ha.form;have hgs:=za0 h1;have hbm:bm<w.heap.size:=h5.lt;have H1:Hid (HasO w gs (.cells #[.slice As ss.length cs,.map (some bm)] 117 (0,0))):=h1;have H3:=Zh h3;have H4:=Zh h4;have H5:=Zh h5;have H6:=Zh h6;have HK:=Zh hk;have HA:=Zh hA0;have HAP:=Zh hap;have HST:=Zh hst;have HVS:=Zh h2;have K3:=Zh k3;have K4:=Zh k4;obtain⟨L,hL⟩:∃ L,st.length=L:=⟨_,rfl⟩;have HL:=Zh hL;obtain⟨S,hS⟩:∃ S,ss.length=S:=⟨_,rfl⟩;have HS:=Zh hS;have hconv:∀ (W:World) (v:Value),Bts W 0 v (keyB st)->(convert 22 9 v).run Tryd.prog W = .ok (.string (keyS st)) W:=fun W v h=>by
   have hb:=zw2 h;obtain⟨A,c,rfl⟩:=hb.form;exact zu5 hb
 have HCV:=Zh hconv;clear hkey h1 h2 h3 h4 h5 h6 hk hA0 ha hap hst k3 k4 hconv
 by_cases hin:st∈ss
 . obtain⟨i,hi,hie⟩:=List.mem_iff_getElem.1 hin;have hi?:ss[i]?=some st:=(by rw[←hie];exact List.getElem?_eq_getElem hi);have hat:=H6.out.idx i st hi?;have hhas:Maps.has (H:=Unit) D (litK st)=true:=(H6.out.has st HST.out).2 hin;have hlk:∀ W,Below w.heap.size w W->(Instr.lookup 114 (.map (some bm)) (.string (keyS st)) true).run Tryd.prog W = .ok (.tuple #[.int .i64 (i:Int),.bool true]) W:=fun W hW=>by
     have hm:W.ownsMap (H:=Unit) Tryd.prog 9 (plainElem Tryd.prog 3) bm ss.length D:=by
       obtain⟨es,clock,hm,r⟩:=H5.out;exact⟨es,clock,(hW.block bm hbm).trans hm,r⟩
     have:=zly hm (by rw[HL.out];omega) hat;rw[hhas] at this;exact this
   have HLK:=Zh hlk;have HI:=Zh hi?;clear hin hi hie hi? hat hhas hlk;rw[hL];rw[hL] at HKEY;go_enter Tryd.func49,Tryd.ntmps49;go_wp2_with (first
     | (go_at_call 81;(with_reducible refine HKEY.out.mono ?_);rintro e w1 ⟨v1,rfl,b1,hb1⟩;have hcv:=fun n=>HCV.out (w1.drewN n) v1 (zap (b1.stays (zbf (Below.refl _ _) n)) (Nat.zero_le _));have hlk:=fun n=>HLK.out (w1.drewN n) (zbf hb1 n);have hm1:∀ n,(w1.drewN n).cell? ⟨gs,1,none⟩=some (.map (some bm)):=(fun n=>cell_of_row _ gs 1 _ _ (0,0) (zah H1.out (zbf hb1 n)));have hm10:=hm1 0;have HB1:=Zh hb1;clear b1 hb1)
     | fail)
   go_quiet (fail);go_wp2;go_ret;exact⟨i,ss,K,rfl,HI.out,.inl rfl,HK.out.off (Kept.of_below (fun _=>False) (zbf HB1.out nq)) (fun b q=>q.elim),fun b h => .inl h,Kept.of_below K (zbf HB1.out nq)⟩
 . have hhas:Maps.has (H:=Unit) D (litK st)=false:=by
     cases h:Maps.has (H:=Unit) D (litK st)
     . rfl
     . exact absurd ((H6.out.has st HST.out).1 h) hin
   have hat:D.atKey (litK st) (.lit (.int .i64 0)) = .lit (.int .i64 0):=Maps.atKey_of_not_has hhas _;have hlk:∀ W,Below w.heap.size w W->(Instr.lookup 114 (.map (some bm)) (.string (keyS st)) true).run Tryd.prog W = .ok (.tuple #[.int .i64 0,.bool false]) W:=fun W hW=>by
     have hm:W.ownsMap (H:=Unit) Tryd.prog 9 (plainElem Tryd.prog 3) bm ss.length D:=by
       obtain⟨es,clock,hm,r⟩:=H5.out;exact⟨es,clock,(hW.block bm hbm).trans hm,r⟩
     have:=zly hm (by rw[HL.out];omega) hat;rw[hhas] at this;exact this
   have HLK:=Zh hlk;have HIN:=Zh hin;have hkO:keyOf Tryd.prog 9 (.string (keyS st))=some (litK st):=Go.WideMaps.keyOf_string_mk Tryd.underlying9 (by rw[zji,HL.out];unfold maxLen;omega);have hpe:plainElem (H:=Unit) Tryd.prog 3 (.int .i64 (S:Int))=some (.lit (.int .i64 (S:Int)),[]):=plainElem_int Tryd.underlying3 (zwa _ (by omega) (by omega));have HKO:=Zh hkO;have HPE:=Zh hpe;have hmu:∀ W,Below w.heap.size w W->W.ownsMap (H:=Unit) Tryd.prog 9 (plainElem Tryd.prog 3) bm ss.length D:=fun W hW=>by
     obtain⟨es,clock,hm,r⟩:=H5.out;exact⟨es,clock,(hW.block bm hbm).trans hm,r⟩
   have HMU:=Zh hmu;have hnm:ss.length<maxLen:=(by unfold maxLen;omega);have HNM:=Zh hnm;clear hin hat hhas hlk hkO hpe hmu hnm;rw[hL];rw[hL] at HKEY;rw[hS] at H1;go_enter Tryd.func49,Tryd.ntmps49;go_wp2_with (first
     | (go_at_call 81;(with_reducible refine HKEY.out.mono ?_);rintro e w1 ⟨v1,rfl,b1,hb1⟩;have hcv:=fun n=>HCV.out (w1.drewN n) v1 (zap (b1.stays (zbf (Below.refl _ _) n)) (Nat.zero_le _));have hlk:=fun n=>HLK.out (w1.drewN n) (zbf hb1 n);have hm1:∀ n,(w1.drewN n).cell? ⟨gs,1,none⟩=some (.map (some bm)):=(fun n=>cell_of_row _ gs 1 _ _ (0,0) (zah H1.out (zbf hb1 n)));have hm10:=hm1 0;have hm00:w1.cell? ⟨gs,0,none⟩=some (.slice As S cs):=(cell_of_row _ gs 0 _ _ (0,0) (zah H1.out hb1));have HB1:=Zh hb1;have BT1:=Zh b1;clear b1 hb1)
     | fail)
   go_quiet (fail);go_upto_region 5 with fail
   have hb2:Below w.heap.size w (w1.drewN nq):=zbf HB1.out nq;have hm2:=hm1 nq;have hm02:(w1.drewN nq).cell? ⟨gs,0,none⟩=some (.slice As S cs):=hm00;have hcvn:∀ n,(convert 22 9 v1).run Tryd.prog ((w1.drewN nq).drewN n) = .ok (.string (keyS st)) ((w1.drewN nq).drewN n):=fun n=>by rw[World.drewN_drewN];exact hcv (nq+n)
   have hcvd:(convert 22 9 v1).run Tryd.prog (w1.drewN nq).drew = .ok (.string (keyS st)) (w1.drewN nq).drew:=hcv (nq+1);clear hcv hlk hm1 hm10 hm00;generalize w1.drewN nq=w2 at *;have HB2:=Zh hb2;clear hb2;go_still_tail 7,(by kernel_rfl);change wpList _ _ _ _ _ (World.drew _);go_wp2_with (first
     | (at_mapUpdate;refine wpList_mapUpdate_in _ rfl _ _ _ 114 rfl 9 3 zum Tryd.underlying114 _ bm ss.length D rfl (HMU.out _ HB2.out.drew) HNM.out _ _ _ rfl rfl HKO.out _ [] HPE.out ?_;intro w3 o3 t3;have O3:=Zh o3;have T3:=Zh t3;clear o3 t3)
     | fail)
   have hne:gs≠bm:=fun e=>by
     obtain⟨es,clock,hm,_⟩:=H5.out;have h1:=H1.out;unfold HasO at h1;rw[e,hm] at h1;cases h1
   have hk3:Kept (fun b=>b=bm) w w3:=((Kept.of_below (fun b=>b=bm) HB2.out).drew).grown T3.out.grown fun b e => .inl (by injection e with e;exact e.symm)
   have hnc:∀ b cur ty,w.heap[b]?=some (.cells cur ty (0,0))->b≠bm:=fun b cur ty h e=>by
     obtain⟨es,clock,hm,_⟩:=H5.out;rw[e,hm] at h;cases h
   have hb3:w3.heap[gs]?=w.heap[gs]?:=hk3.block gs hgs hne;have H13:Hid (HasO w3 gs (.cells #[.slice As S cs,.map (some bm)] 117 (0,0))):=hb3.trans H1.out;have h33:w3.ownsRow 0 119 1 (.slice As S cs) S vs:=by
     have h:=H3.out;rw[HS.out] at h;exact za3 h fun b e hb=>hk3.block b hb (by obtain⟨cur,hc⟩:=zaa h e;exact hnc b cur _ hc)
   have h43:∀ (i:Nat) v s,vs[i]?=some v->ss[i]?=some s->Wds w3 0 v s:=fun i v s e1 e2=>(H4.out i v s e1 e2).off hk3 fun b e=>by obtain⟨cur,hc⟩:=(H4.out i v s e1 e2).kind e;exact hnc b cur _ hc
   have ha3:Wds w3 D0 (.slice A0 st.length c0) st:=HA.out.off hk3 fun b e q=>HAP.out b e (by subst q;exact k2)
   have hcl:∀ W,Below w3.heap.size w3 W->Calls Tryd.prog 82 #[.slice A0 L c0] W fun e w'=>∃ A c,e = .returned (.slice A L c)∧Wds w' W.heap.size (.slice A L c) st∧Below w3.heap.size w3 w':=fun W hW=>by
     have h:=zsd (ha3.stays hW) (by rw[HL.out];omega);rw[HL.out] at h;refine h.mono fun e w' h'=>?_
     obtain⟨v',e1,e2,e3⟩:=h';obtain⟨A,c,e4⟩:=e2.form;rw[HL.out] at e4;subst e4;exact⟨A,c,e1,e2,gro hW e3⟩
   obtain⟨i0,hi,hz0,hz1,hz2⟩:=info_parts Tryd.infoSlM;have happ:∀ (W:World) (A5:Option Addr) (c5:Nat),Below w3.heap.size w3 W->∃ A6 c6 w6,App 115 115 (W.alloc (.cells #[.slice A5 L c5] 119)) (.slice As S cs) (.slice (some ⟨W.heap.size,0,none⟩) 1 1)∧
       appV 115 115 (W.alloc (.cells #[.slice A5 L c5] 119)) (.slice As S cs) (.slice (some ⟨W.heap.size,0,none⟩) 1 1) = .slice A6 (S+1) c6∧
       appW 115 115 (W.alloc (.cells #[.slice A5 L c5] 119)) (.slice As S cs) (.slice (some ⟨W.heap.size,0,none⟩) 1 1)=w6∧
       w6.ownsRow 0 119 1 (.slice A6 (S+1) c6) (S+1) (vs++[.slice A5 L c5])∧(W.alloc (.cells #[.slice A5 L c5] 119)).grownBy w6 (Value.slice As S cs).ownBlock∧((Value.slice A6 (S+1) c6).ownBlock=(Value.slice As S cs).ownBlock∨(Value.slice A6 (S+1) c6).ownBlock=some (W.heap.size+1)):=fun W A5 c5 hW=>by
     have hal:Below W.heap.size W (W.alloc (.cells #[.slice A5 L c5] 119)):=(Below.refl _ _).alloc (Nat.le_refl _) _;obtain⟨v6,w6,hr,r1,r2,_,r3⟩:=run_append_own_at (P:=Tryd.prog) (W.alloc (.cells #[.slice A5 L c5] 119)) 0 115 115 119 i0 _ 1 24 Tryd.underlying115 hi hz0 hz1 hz2 rfl (by decide) _ S vs (za8 (za8 h33 hW) hal) ⟨W.heap.size,0,none⟩ 1 1 [.slice A5 L c5] rfl
       (by
         intro j u hu;rw[Addr.add_lit,Nat.zero_add,cell_of_row _ _ j _ 119 (0,0) (heap_alloc_new W _)]
         simpa using hu)
       (by
         intro u hu;simp at hu;subst hu;rfl) (by unfold maxLen;omega) (by omega) (Nat.zero_le _)
     obtain⟨A6,c6,rfl⟩:=zam r1;obtain⟨q1,q2,q3⟩:=zs5 (ty:=115) hr;exact⟨A6,c6,w6,q1,q2,q3,r1,r2,by simpa using r3⟩
   have x00:w3.cell? ⟨gs,0,none⟩=some (.slice As S cs):=cell_of_row _ gs 0 _ _ (0,0) H13.out;have HCL:=Zh hcl;have HAPP:=Zh happ;have H33:=Zh h33;have H43:=Zh h43;have HKK3:=Zh hk3;have HNE:=Zh hne;have hng:some gs≠(Value.slice As S cs).ownBlock:=fun e=>by
     obtain⟨cur,hc⟩:=zaa H33.out e.symm;exact za1 H13.out hc (by decide) rfl
   have HNG:=Zh hng;clear hng;clear hcl happ h33 h43 hk3 hnc hb3 ha3 hi hz0 hz1 hz2 hm2 hm02 hcvn hcvd hne;go_region_law (first
     | (go_simp;go_at_call 82;(with_reducible refine (HCL.out _ (by repeat (first | with_reducible exact Below.refl _ _ | with_reducible refine Below.drew ?_))).mono ?_);rintro e w5 ⟨A5,c5,rfl,y5,b5⟩;have x05:w5.cell? ⟨gs,0,none⟩=some (.slice As S cs):=cell_of_row _ gs 0 _ _ (0,0) (zah H13.out b5);have x05a:=zbe x05 (.cells #[.slice A5 L c5] 119);obtain⟨A6,c6,w6,a1,a2,a3,a4,a5,a6⟩:=HAPP.out w5 A5 c5 b5;have hx6:=zb9 a5 (zb1 (.cells #[.slice A5 L c5] 119) (zah H13.out b5)) HNG.out;have x06:w6.cell? ⟨gs,0,none⟩=some (.slice As S cs):=cell_of_row _ gs 0 _ _ (0,0) hx6;have f06:w6.frozen? ⟨gs,0,none⟩=false:=frozen_of_row w6 gs 0 _ _ hx6;have HX6:=Zh hx6;have Y5:=Zh y5;have B5:=Zh b5;have R6:=Zh a4;have G6:=Zh a5;have O6:=Zh a6;clear y5 b5 a4 a5 a6 hx6)
     | fail)
   all_goals
     go_wp2;go_ret;obtain⟨w2',hw2'⟩:∃ w2',w6.setCell ⟨gs,0,none⟩ (.slice A6 (S+1) c6)=w2':=⟨_,rfl⟩;rw[hw2'];have kq5:Kept (fun b=>b=gs∨(Value.slice As S cs).ownBlock=some b) w5 w2':=by
       rw[←hw2'];exact (((Kept.refl (fun b=>b=gs∨(Value.slice As S cs).ownBlock=some b) w5).alloc (.cells #[.slice A5 L c5] 119)).grown G6.out fun b e => .inl (.inr e)).setCell (a:=⟨gs,0,none⟩) (.inl (.inl rfl)) _
     have kq3:Kept (fun b=>b=gs∨(Value.slice As S cs).ownBlock=some b) w3 w2':=(Kept.of_below (fun b=>b=gs∨(Value.slice As S cs).ownBlock=some b) B5.out).trans kq5 fun b e => .inl e
     have s5:=B5.out.size;have s3:=HKK3.out.size;have s2:=kq5.size;have s6:w2'.heap.size=w6.heap.size:=(by rw[←hw2'];simp[World.setCell]);have g6s:=G6.out.size;rw[World.size_alloc] at g6s;have hnw:∀ (v:Value) (s:Sta),Wds w3 0 v s->Wds w2' 0 v s:=fun v s h=>h.off kq3 fun b e q=>by
       obtain⟨cur,hc⟩:=h.kind e;rcases q with q|q
       . subst q;exact za1 H13.out hc (by decide) rfl
       . obtain⟨cur2,hc2⟩:=zaa H33.out q;exact za1 hc2 hc (by decide) rfl
     have hy5:Wds w2' 0 (.slice A5 L c5) st:=(Y5.out.low (Nat.zero_le _)).off kq5 fun b e q=>by
       obtain⟨cur,hc⟩:=Y5.out.kind e;rcases q with q|q
       . subst q;exact za1 (zah H13.out B5.out) hc (by decide) rfl
       . obtain⟨cur2,hc2⟩:=zaa (za8 H33.out B5.out) q;exact za1 hc2 hc (by decide) rfl
     have hr6:w2'.ownsRow 0 119 1 (.slice A6 (S+1) c6) (S+1) (vs++[.slice A5 L c5]):=za3 R6.out fun b e _=>by
       rw[←hw2'];refine Below.heap_setCell _ _ _ _ fun e2=>?_
       have e3:b=gs:=e2;subst e3;obtain⟨cur,hc⟩:=zaa R6.out e;exact za1 HX6.out hc (by decide) rfl
     have hbm6:w2'.heap[bm]?=w3.heap[bm]?:=kq3.block bm (by omega) fun q=>by
       rcases q with q|q
       . exact HNE.out q.symm
       . obtain⟨cur2,hc2⟩:=zaa H33.out q;obtain⟨es,clock,hm,_⟩:=O3.out;rw[hm] at hc2;cases hc2
     have hgs6:w2'.heap[gs]?=some (.cells #[.slice A6 (S+1) c6,.map (some bm)] 117 (0,0)):=by
       rw[←hw2'];have h:=HX6.out;unfold HasO at h;simp[World.setCell,Array.getElem?_modify,h]
     have hlt6:=fun b e=>World.ownsRow.lt hr6 b e
     refine⟨S,ss++[st],fun b=>K b∨(w.heap.size<=b∧b<w2'.heap.size),rfl,by rw[←HS.out];simp,.inr ⟨HIN.out,rfl⟩,⟨⟨.slice A6 (S+1) c6,bm,vs++[.slice A5 L c5],D.put (litK st) (.lit (.int .i64 (ss.length:Nat))),hgs6,by simp[HVS.out],by rw[List.length_append,HS.out];exact hr6,fun i v s e1 e2=>?_,?_,H6.out.put HST.out HIN.out,.inl k1,.inl k2,fun b e=>?_,fun v hv b e=>?_⟩,fun b hb=>?_,?_⟩,fun b hb=>hb.imp id fun h=>h.1,?_⟩
     . by_cases hiS:i<ss.length
       . rw[List.getElem?_append_left (by rw[HVS.out];exact hiS)] at e1;rw[List.getElem?_append_left hiS] at e2;exact hnw v s (H43.out i v s e1 e2)
       . have hi':i=ss.length:=by
           have:=(List.getElem?_eq_some_iff.1 e2).1;simp at this;omega
         subst hi';rw[List.getElem?_append_right (by rw[HVS.out];exact Nat.le_refl _)] at e1;simp[HVS.out] at e1 e2;subst e1 e2;exact hy5
     . obtain⟨es,clock,hm,r⟩:=O3.out;rw[List.length_append,HS.out] at *;exact⟨es,clock,hbm6.trans hm,r⟩
     . rcases O6.out with h|h
       . exact .inl (K3.out b (by have:=h.symm.trans e;rw[←HS.out] at this;exact this))
       . have h2:w5.heap.size+1=b:=(by have:=h.symm.trans e;injection this);exact .inr ⟨by omega,(hlt6 b e).2⟩
     . rcases List.mem_append.1 hv with h|h
       . exact .inl (K4.out v h b e)
       . rw[List.mem_singleton] at h;subst h;have:=Y5.out.in e;simp only[World.size_drew] at this;exact .inr ⟨by omega,by omega⟩
     . rcases hb with h|h
       . have:=HK.out.lt b h;omega
       . exact h.2
     . rw[List.nodup_append];exact⟨HK.out.nodup,by simp,fun a ha b hb=>by rw[List.mem_singleton] at hb;subst hb;exact fun e=>HIN.out (e▸ha)⟩
     . refine (HKK3.out.mono (Q':=K) fun b e => .inl (by subst e;exact k2)).trans kq3 fun b q=>?_
       rcases q with q|q
       . exact .inl (q▸k1)
       . exact .inl (K3.out b (by rw[←HS.out] at q;exact q))
end
end Go.Proofs.YtgbdanddbgomhaaDoor
