import Derived.Test.YtgbdanddbgomhaaGreatDoorMs40
import Derived.Test.YtgbdanddbgomhaaGreatDoorMs16
import Derived.Test.YtgbdanddbgomhaaGreatDoorMs8
set_option linter.unusedVariables false
set_option linter.unusedSimpArgs false
namespace Go.Proofs.YtgbdanddbgomhaaGreatDoor
open Go Go.RowKit
section
attribute [local go_sem ↓] Go.wp_at_zero Go.wp_at_succ
attribute [local go_sem ↓] zl3
def SpotV (w:World) (er:Value) (n k:Int):Prop:=(er = .iface 71 (.int .i64 1)∧n=1∧k = -1)∨∃ gs,er = .iface 69 (.pointer (some ⟨gs,0,none⟩))∧w.heap[gs]?=some (.cells #[.int .i64 k,.int .i64 n] 73 (0,0))
def RetCheck (w:World) (K:Int) (r:Except (Int×Int) (List (T×Bool))) (e:Ending) (w':World):Prop:=match r with
 | .ok l=>(∃ A c,e = .returned (.tuple #[.slice A l.length c,.int .i64 K,.nilIface])∧RdRules w' A l)∧Below w.heap.size w w'
 | .error (n,k)=>(∃ er,e = .returned (.tuple #[.slice none 0 0,.int .i64 0,er])∧SpotV w' er n k)∧Below w.heap.size w w'
theorem ziq {α:Type} (l:List α) (k:Nat) (x:α) (h:l[k]?=some x):l.drop k=x::l.drop (k+1):=by
 obtain⟨hl,e⟩:=List.getElem?_eq_some_iff.1 h;rw[List.drop_eq_getElem_cons hl,e]
theorem zl2 (acc:List (T×Bool)) (r:T×Bool) (m:Nat) (hm:0<m):(acc++List.replicate m rule0).set acc.length r=acc++[r]++List.replicate (m-1) rule0:=by
 obtain⟨m,rfl⟩:∃ j,m=j+1:=⟨m-1,by omega⟩;rw[List.set_append_right _ _ (Nat.le_refl _),Nat.sub_self,List.replicate_succ,List.set_cons_zero];simp
set_option maxRecDepth 20000 in
set_option maxHeartbeats 4000000 in
theorem zcm (c:Cf) (hc:CfW c) (s:ByteArray) (hs:s.size<=100000) (w:World) (hd:Dor w) (hm:MaxL w):
   Calls Tryz.prog 6 #[.string s,.agg #[.int .i64 c.lam,.int .i64 c.q,.int .i64 c.cap,.int .u64 (c.rate:Int),.int .u8 (c.mask:Int)]] w (RetCheck w (rateN c.rate:Int) (checkR s c)):=by
 have hb1:Below w.heap.size w (w.alloc (.cells #[.int .i64 c.lam,.int .i64 c.q,.int .i64 c.cap,.int .u64 (c.rate:Int),.int .u8 (c.mask:Int)] 24)):=(Below.refl _ _).alloc (Nat.le_refl _) _;have HC:=Zh (zfg c hc (w.alloc (.cells #[.int .i64 c.lam,.int .i64 c.q,.int .i64 c.cap,.int .u64 (c.rate:Int),.int .u8 (c.mask:Int)] 24)));unfold confV at HC;have HB1:=Zh hb1;have HBX:=Zh (heap_alloc_new w (.cells #[.int .i64 c.lam,.int .i64 c.q,.int .i64 c.cap,.int .u64 (c.rate:Int),.int .u8 (c.mask:Int)] 24));have HD:=Zh (hd.stays hb1);have HP:=Zh (fun W (hb:Below w.heap.size w W)=>zk0 W s hs (hm.stays hb));have HCW:=Zh hc;clear hb1 hd hc;unfold checkR;obtain⟨K,hK⟩:∃ K:Int,(rateN c.rate:Int)=K:=⟨_,rfl⟩;rw[hK] at HC ⊢;clear hK
 by_cases hk:cfOk c=true
 . simp only[if_pos hk] at HC ⊢;clear hk;cases hr:parseR s with
   | error x =>
     obtain⟨n,k⟩:=x;unfold RetPar at HP;simp only[hr] at HP;clear hr hs hm;go_enter Tryz.func6,Tryz.ntmps6;go_wp2_with (first
       | (go_at_call 16;(with_reducible refine HC.out.mono ?_);rintro e w2 ⟨rfl,hb2⟩;have HB2:=Zh hb2;clear hb2)
       | (go_at_call 17;(with_reducible refine (HP.out _ (gro HB1.out HB2.out)).mono ?_);rintro e w3 ⟨⟨gs,rfl,hgs,_⟩,hb3⟩;have HB3:=Zh hb3;have HGS:=Zh hgs;clear hb3 hgs))
     refine bodyPost_ret (results_tmp3 rfl _ _ _) rfl ?_;exact⟨⟨_,rfl,.inr ⟨gs,rfl,HGS.out⟩⟩,gro (gro HB1.out HB2.out) HB3.out⟩
   | ok l =>
     have hl8:=zcx hr;have hsz:=zg6 hr;unfold RetPar at HP;simp only[hr] at HP;have HSZ:Hid (∀ x∈l,x.pat.size<=9223372036854775807):=Zh fun x hx=>by have:=hsz x hx;omega
     clear hr hsz hs hm;obtain⟨N,hN⟩:∃ N,l.length=N:=⟨_,rfl⟩;rw[hN] at HP hl8;have HN:=Zh hN;clear hN;obtain⟨R,hR⟩:∃ R,checkL c.lam c.mask l 0 []=R:=⟨_,rfl⟩;change Calls _ _ _ _ (RetCheck w K (checkL c.lam c.mask l 0 []));rw[hR];have HR0:Hid (R=checkL c.lam c.mask (l.drop 0) 0 []):=Zh (by rw[←hR];rfl);clear hR;have HMK:=Zh (fun W=>RuleRow.made zg2 W N (by omega));go_enter Tryz.func6,Tryz.ntmps6;go_upto_region 7 with (first
       | (go_at_call 16;(with_reducible refine HC.out.mono ?_);rintro e w2 ⟨rfl,hb2⟩;have HB2:=Zh hb2;clear hb2)
       | (go_at_call 17;(with_reducible refine (HP.out _ (gro HB1.out HB2.out)).mono ?_);rintro e w3 ⟨⟨A,cp,rfl,hrd⟩,hb3⟩;have HB3:=Zh hb3;have HRD:=Zh hrd;clear hb3 hrd))
     obtain⟨wm,hmk,hrow,hbm⟩:=HMK.out w3;have HROW:=Zh hrow;have HBM:=Zh hbm;have HX3:=Zh ((HB3.out.block w.heap.size (by have:=HB2.out.size;simp only[World.size_alloc] at this;omega)).trans ((HB2.out.block w.heap.size (by simp)).trans HBX.out));have HD3:=Zh ((HD.out.stays HB2.out).stays HB3.out);have HW3:=Zh (gro (gro HB1.out HB2.out) HB3.out);clear hrow hbm;go_wp2;go_loopg [36] N (fun mm i wr=>∃ (k:Nat) (acc:List (T×Bool)),i = .int .i64 (k:Int)∧k<=N∧mm=N-k∧acc.length=k∧RuleRow 43 wr w3.heap.size (.slice (some ⟨w3.heap.size,0,none⟩) N N) (acc++List.replicate (N-k) rule0)∧Below w3.heap.size w3 wr∧R=checkL c.lam c.mask (l.drop k) k acc)
     case atStart=>exact⟨0,[],rfl,Nat.zero_le _,rfl,rfl,HROW.out,HBM.out,HR0.out⟩
     case round =>
       obtain⟨k,acc,rfl,hk,hmk2,hacc,hv,hbw,hq⟩:=hrel;have HMM:=Zh hmk2;have HACC:=Zh hacc;have HV:=Zh hv;have HBW:=Zh hbw;have HQ:=Zh hq;have HXR:=Zh ((hbw.block w.heap.size (za0 HX3.out)).trans HX3.out);have HDR:=Zh (HD3.out.stays hbw);have HWR:=Zh (gro HW3.out hbw);clear hmk2 hacc hv hbw hq
       by_cases hkN:k<N
       . have hkN':(k:Int)<(N:Int):=(by omega);have hk0:(0:Int)<=(k:Int):=(by omega);obtain⟨x,hx⟩:∃ x,l[k]?=some x:=⟨_,List.getElem?_eq_getElem (by rw[HN.out];exact hkN)⟩;obtain⟨g,off,e0,hg,c0,c1,c2⟩:=(HRD.out.stays HBW.out) k x hx;subst e0;have HQ1:Hid (R=checkL c.lam c.mask (x::l.drop (k+1)) k acc):=Zh (by rw[HQ.out,ziq l k x hx]);have HXS:=Zh (HSZ.out x (List.mem_of_getElem? hx));clear hx;go_upto_region 11 with fail
         generalize hw4:wr.alloc (.cells #[.string x.name,.string x.pat,.bool x.luhn] 58)=w4 at *;have hb4:Below wr.heap.size wr w4:=(by rw[←hw4];exact (Below.refl _ _).alloc (Nat.le_refl _) _);have hr4:RB w4 wr.heap.size x:=(by rw[←hw4];exact RB.new _ _);have hx4:=(hb4.block w.heap.size (za0 HXR.out)).trans HXR.out;obtain⟨r0,r1,r2⟩:=hr4.cell;have y0:=cell_of_row w4 w.heap.size 0 _ 24 (0,0) hx4;have y1:=cell_of_row w4 w.heap.size 1 _ 24 (0,0) hx4;have y2:=cell_of_row w4 w.heap.size 2 _ 24 (0,0) hx4;have y3:=cell_of_row w4 w.heap.size 3 _ 24 (0,0) hx4;have y4:=cell_of_row w4 w.heap.size 4 _ 24 (0,0) hx4;simp only[List.getElem?_toArray,List.getElem?_cons_succ,List.getElem?_cons_zero] at y0 y1 y2 y3 y4;have HREAD:=Zh (zmk c HCW.out x.pat HXS.out w4 (HDR.out.stays hb4));have HB4:=Zh hb4;have HR4:=Zh hr4;clear hw4 hb4 hr4 hx4 c0 c1 c2;unfold RetRead at HREAD;cases hp:readP c.lam c.mask x.pat with
         | error n =>
           simp only[hp] at HREAD;have HE:Hid (R = .error (n,(k:Int))):=Zh (by rw[HQ1.out,checkL,hp]);clear hp;go_upto_region 12 with (go_at_call 18;(with_reducible refine HREAD.out.mono ?_);rintro e w5 ⟨⟨er,rfl,her⟩,hb5⟩;have HB5:=Zh hb5;have HER:=Zh her;unfold nodeV;clear hb5 her)
           generalize hw6:w5.alloc (.cells #[.int .i64 T.zero.op,.int .u64 (word T.zero.set 0),.int .u64 (word T.zero.set 1),.int .u64 (word T.zero.set 2),.int .u64 (word T.zero.set 3),.int .i64 T.zero.lo,.int .i64 T.zero.hi,.slice none 0 0] 41)=w6 at *;have hb6:Below w5.heap.size w5 w6:=(by rw[←hw6];exact (Below.refl _ _).alloc (Nat.le_refl _) _);have hw:Below w.heap.size w w6:=gro (gro (gro HWR.out HB4.out) HB5.out) hb6;have HW6:=Zh hw;have HPL:=Zh (zlb (k:Int) er n w6 (HER.out.stays hb6) (((HDR.out.stays HB4.out).stays HB5.out).stays hb6).err);obtain⟨ty,v,rfl⟩:∃ ty v,er = .iface ty v:=by rcases HER.out with rfl|⟨gs,x,rfl,_⟩ <;> exact⟨_,_,rfl⟩
           clear hw6 hb6 hw;go_wp2_with (go_at_call 19;(with_reducible refine HPL.out.mono ?_);rintro e w7 ⟨gs,rfl,hgs,_,hb7⟩;have HB7:=Zh hb7;have HGS:=Zh hgs;clear hb7 hgs);refine bodyPost_ret (results_tmp3 rfl _ _ _) rfl ?_;rw[HE.out];exact⟨⟨_,rfl,.inr ⟨gs,rfl,HGS.out⟩⟩,gro HW6.out HB7.out⟩
         | ok t =>
           simp only[hp] at HREAD;have HE:Hid (R=checkL c.lam c.mask (l.drop (k+1)) (k+1) (acc++[(t,x.luhn)])):=Zh (by rw[HQ1.out,checkL,hp]);clear hp;go_upto_region 12 with (go_at_call 18;(with_reducible refine HREAD.out.mono ?_);rintro e w5 ⟨⟨kk,rfl,ht⟩,hb5⟩;obtain⟨A5,n5,c5,rfl⟩:=ht.form;have HB5:=Zh hb5;have HT:=Zh ht;unfold nodeV;clear hb5 ht)
           generalize hw6:w5.alloc (.cells #[.int .i64 t.op,.int .u64 (word t.set 0),.int .u64 (word t.set 1),.int .u64 (word t.set 2),.int .u64 (word t.set 3),.int .i64 t.lo,.int .i64 t.hi,.slice A5 n5 c5] 41)=w6 at *;have hb6:Below w5.heap.size w5 w6:=(by rw[←hw6];exact (Below.refl _ _).alloc (Nat.le_refl _) _);have hn6:Box8 w6 w5.heap.size t (.slice A5 n5 c5):=(by rw[←hw6];exact Box8.new _ _ _);have hw:Below wr.heap.size wr w6:=gro (gro HB4.out HB5.out) hb6;obtain⟨n0,n1,n2,n3,n4,n5',n6,n7⟩:=hn6.cell;obtain⟨r0,r1,r2⟩:=((HR4.out.stays HB5.out).stays hb6).cell;have hlen:(acc++List.replicate (N-k) rule0).length=N:=(by have:=HACC.out;simp;omega);have hv6:=HV.out.stays hw;have hv6':RuleRow 43 w6 w3.heap.size (.slice (some ⟨w3.heap.size,0,none⟩) (acc++List.replicate (N-k) rule0).length N) (acc++List.replicate (N-k) rule0):=(by rw[hlen];exact hv6);have hkl:k<(acc++List.replicate (N-k) rule0).length:=(by rw[hlen];exact hkN);have hst:=RuleRow.stoM zg2 hv6' hkl (t,x.luhn) A5 n5 c5;have hB3:=HBW.out.size;have hset:=RuleRow.setM zg2 hv6' hkl (t,x.luhn) (.slice A5 n5 c5) (((HT.out.stays hb6)).weak fun b hb _=>by have:=HB4.out.size;have:=HB5.out.size;omega);rw[hlen] at hset;have hacc:acc.length=k:=HACC.out;have hnx:(acc++List.replicate (N-k) rule0).set k (t,x.luhn)=(acc++[(t,x.luhn)])++List.replicate (N-(k+1)) rule0:=by
             have:=zl2 acc (t,x.luhn) (N-k) (by omega);rw[hacc] at this;rw[this,show N-k-1=N-(k+1) by omega]
           rw[hnx] at hset;have HSET:=Zh hset;have HW:=Zh hw;unfold ruleV at hst;clear hw6 hb6 hn6 hw hlen hv6 hv6' hkl hset hacc hnx;go_wp2;go_roundg (N-(k+1))
           case measure=>have:=HMM.out;omega
           case rel=>exact⟨k+1,acc++[(t,x.luhn)],by go_num,by omega,rfl,by simp[HACC.out],HSET.out,zgk (r:=(t,x.luhn)) (k := .slice A5 n5 c5) (gro HBW.out HW.out) (Nat.le_refl _),HE.out⟩
       . have hkn:k=N:=(by omega);have HL:Hid (R = .ok acc):=Zh (by
           have hd0:l.drop k=[]:=List.drop_eq_nil_of_le (by rw[HN.out];omega);rw[HQ.out,hd0,checkL])
         have ha:acc.length=N:=(by rw[HACC.out,hkn]);have hvv:RuleRow 43 wr w3.heap.size (.slice (some ⟨w3.heap.size,0,none⟩) N N) acc:=by
           have:=HV.out;rw[hkn,Nat.sub_self,List.replicate_zero,List.append_nil] at this;exact this
         have HVV:=Zh hvv;have HA:=Zh ha;have hkn':¬ (k:Int)<(N:Int):=(by omega);clear hkn ha hvv;go_wp2;refine bodyPost_ret (results_tmp3 rfl _ _ _) rfl ?_;rw[HL.out];exact⟨⟨some ⟨w3.heap.size,0,none⟩,N,by rw[HA.out];rfl,HVV.out.rd rfl⟩,HWR.out⟩
 . have hk':cfOk c=false:=(by cases h:cfOk c;rfl;exact absurd h hk);simp only[hk',Bool.false_eq_true,if_false] at HC ⊢;clear hk hk' hs hm;go_enter Tryz.func6,Tryz.ntmps6;go_wp2_with (go_at_call 16;(with_reducible refine HC.out.mono ?_);rintro e w2 ⟨rfl,hb2⟩;have HB2:=Zh hb2;clear hb2);refine bodyPost_ret (results_tmp3 rfl _ _ _) rfl ?_;exact⟨⟨_,rfl,.inl ⟨rfl,rfl,rfl⟩⟩,gro HB1.out HB2.out⟩
end
end Go.Proofs.YtgbdanddbgomhaaGreatDoor
