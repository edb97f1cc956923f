import Derived.Test.YtgbdanddbgomhaaGreatDoorMs22
import Derived.Test.YtgbdanddbgomhaaGreatDoorMs21
set_option linter.unusedVariables false
set_option linter.unusedSimpArgs false
namespace Go.Proofs.YtgbdanddbgomhaaGreatDoor
open Go Go.RowKit
section
attribute [local go_sem ↓] Go.wp_at_zero Go.wp_at_succ
def EndsP (u:T):Prop:=∀ (w:World) (B c:Nat) (xs:List Int) (A:Option Addr) (Γ:Ghost) (g o:Nat) (v:Value) (q:Nat->Bool),Ask w B xs A Γ->Γ.F g o=some u->InW w xs v q->
 Calls Tryz.prog 29 #[.pointer (some ⟨g,o,none⟩),.slice A xs.length c,v] w (RetEndsP B w xs Γ (img (E xs u) fun i=>q i=true))
theorem zd9 {w w':World} {B:Nat} {xs:List Int} {A:Option Addr} {Γ Γ':Ghost} (h:Ask w B xs A Γ) (hi:Inv w' B xs Γ') (x:Ext B w w' Γ Γ') (hM:∀ g,Γ'.M g->Γ.M g):Ask w' B xs A Γ':=
 h.ext x ⟨hi,fun g e=>Nat.lt_of_lt_of_le (h.inv.old g (hM g e)) x.below.size⟩
theorem zmi {m:Nat} {q r:Nat->Bool} (h:∀ i,i<m->word q i=word r i) (x:Nat) (hx:x<64*m):q x=r x:=by
 have e:=h (x / 64) (by omega);have e2:wordN q (x / 64)=wordN r (x / 64):=(by unfold word at e;omega);have t1:=za4 q (x / 64) (x % 64);have t2:=za4 r (x / 64) (x % 64);rw[e2] at t1;rw[t1] at t2;have h64:x % 64<64:=Nat.mod_lt _ (by omega);rw[show 64*(x / 64)+x % 64=x by omega] at t2
 simpa [h64] using t2
theorem zjc {w w2:World} {xs:List Int} {v v2:Value} {q r:Nat->Bool} (h1:InW w xs v q) (h2:InW w2 xs v2 r) (h:∀ i,i<xs.length / 64+1->word q i=word r i) (x:Nat):q x=true↔r x=true:=by
 by_cases hx:x<64*(xs.length / 64+1)
 . rw[zmi h x hx]
 . constructor
   . intro e;have:=h1.le x e;omega
   . intro e;have:=h2.le x e;omega
theorem Pl.apart {w2 w5 w6:World} {C D m m':Nat} {v5 v:Value} {q5 q:Nat->Bool} (h5:Pl w5 C v5 m' q5) (hv:Pl w2 D v m q) (hC:w2.heap.size<=C) (hg:w5.grownBy w6 v.ownBlock):Pl w6 C v5 m' q5:=by
 refine⟨h5.1,?_⟩;rcases h5.2 with hn|⟨g,cap,cur,rfl,hB,hg1,rest⟩
 . exact .inl hn
 . refine .inr ⟨g,cap,cur,rfl,hB,(hg.block g (za0 hg1) fun er=>?_).trans hg1,rest⟩;have:=(World.ownsRow.lt hv g er.symm).2;omega
set_option maxRecDepth 20000 in
set_option maxHeartbeats 4000000 in
theorem ze5 {w:World} {B c:Nat} {xs:List Int} {A:Option Addr} {Γ:Ghost} {g o ln hn:Nat} {u:T} {v:Value} {q:Nat->Bool} (ih:EndsP u) (h:Ask w B xs A Γ) (e:Γ.F g o=some (.mk 4 noneP ln hn [u])) (hv:InW w xs v q):
   Calls Tryz.prog 78 #[.pointer (some ⟨g,o,none⟩),.slice A xs.length c,v] w (RetMine B w xs Γ (img (E xs (.mk 4 noneP ln hn [u])) fun i=>q i=true)):=by
 obtain⟨hb1,hb2⟩:ln<=hn∧hn<=32:=by
   have hwf:=(h.inv.inv.part g o _ e).2.wf;cases hwf with
   | rep _ _ _ h0 h1 h2 h3 _=>exact⟨by omega,by omega⟩
 have hm:xs.length / 64+1<=1000000:=(by have:=h.len;omega);have hm0:0<xs.length / 64+1:=(by omega);have hkid:∀ W Γ',Ask W B xs A Γ'->Γ'.F g o=some (.mk 4 noneP ln hn [u])->Calls Tryz.prog 51 #[.pointer (some ⟨g,o,none⟩),.int .i64 0] W (RetKid B W xs Γ' u):=fun W Γ' ha he=>zn0 ha.inv.inv ha.le he 0 (by simp[T.kids])
 unfold RetKid at hkid;have hend:∀ W Γ' g' o' v' q',Ask W B xs A Γ'->Γ'.F g' o'=some u->InW W xs v' q'->Calls Tryz.prog 29 #[.pointer (some ⟨g',o',none⟩),.slice A xs.length c,v'] W (RetEndsP B W xs Γ' (img (E xs u) fun i=>q' i=true)):=fun W Γ' g' o' v' q' ha he hv=>ih W B c xs A Γ' g' o' v' q' ha he hv
 unfold RetEndsP at hend;have HKID:=Zh hkid;have HEND:=Zh hend;have HH:=Zh h;have HE:=Zh e;have HV:=Zh hv;obtain⟨gn,on,kn,n1,n2,n3,curn,n4⟩:=(h.inv.inv.part g o _ e).2.node;have n5:w.cell? ⟨gn,on+5,none⟩=some (.int .i64 (ln:Int)):=n2 5 _ rfl;generalize hM:xs.length / 64+1=m at *;have HM:=Zh (fun _:Unit=>hM);clear hkid hend h e hv n2 n3 n4 hM ih;go_enter Tryz.func78,Tryz.ntmps78;go_wp2;go_loopg [7,19] ln (fun m' now i wr=>∃ (j:Nat) (q':Nat->Bool) (Γ':Ghost),i = .int .i64 (j:Int)∧j<=ln∧m'=ln-j∧Ask wr B xs A Γ'∧Ext B w wr Γ Γ'∧InW wr xs now q'∧∀ x,q' x=true↔imgN (E xs u) (fun i=>q i=true) j x)
 case atStart=>exact⟨0,q,Γ,rfl,Nat.zero_le _,rfl,HH.out,Ext.refl _ _ _,HV.out,fun _=>Iff.rfl⟩
 case round =>
   obtain⟨j,q1,Γ1,rfl,hj,hmj,ha1,hx1,hv1,hq1⟩:=hrel;have HMJ:=Zh hmj;have HA1:=Zh ha1;have HX1:=Zh hx1;have HV1:=Zh hv1;have HQ1:=Zh hq1;clear hmj ha1 hx1 hv1 hq1
   by_cases hlt:j<ln
   . have hji:(j:Int)<(ln:Int):=(by omega);go_wp2_with (first
       | (go_at_call 51;(with_reducible refine (HKID.out _ _ HA1.out (HX1.out.F _ _ _ HE.out)).mono ?_);rintro e1 w1 ⟨g1,o1,Γ2,rfl,hf1,hi1,hx2,hM2⟩;have HA2:=Zh (zd9 HA1.out hi1 hx2 hM2);have HX2:=Zh hx2;have HF1:=Zh hf1;clear hf1 hi1 hx2 hM2)
       | (go_at_call 29;(with_reducible refine (HEND.out _ _ _ _ _ _ HA2.out HF1.out (HV1.out.ext HX2.out)).mono ?_);rintro e2 w2 ⟨v2,q2,Γ3,rfl,hi3,hx3,hv3,hq3⟩;have HA3:=Zh (HA2.out.ext hx3 hi3);have HX3:=Zh hx3;have HV3:=Zh hv3;have HQ3:=Zh hq3;clear hi3 hx3 hv3 hq3))
     have HEQ:=Zh (zn4 w2 0 0 m v2 u7 q2 q1 (by have h1:=HV3.out.pl;rwa [HM.out ()] at h1) (by have h1:=((HV1.out.ext HX2.out).ext HX3.out).pl;rwa [HM.out ()] at h1) hm0 hm);go_at_call 96
     with_reducible refine HEQ.out.mono ?_
     rintro e3 w3 ⟨b,rfl,hb,hbl⟩;have HB:=Zh hb;have HA4:=Zh (HA3.out.stays hbl);have HX4:=Zh (((HX1.out.trans HX2.out).trans HX3.out).trans (Ext.stays Γ3 hbl HA3.out.le));have HV4:=Zh (HV3.out.stays hbl);have HV5:=Zh (((HV1.out.ext HX2.out).ext HX3.out).stays hbl);clear hb hbl HEQ;have hstep:∀ x,q2 x=true↔imgN (E xs u) (fun i=>q i=true) (j+1) x:=fun x=>(HQ3.out x).trans (zd1 HQ1.out x)
     have HST:=Zh hstep;clear hstep;cases b
     . go_wp2;go_roundg (ln-(j+1))
       case measure=>have:=HMJ.out;omega
       case rel=>exact⟨j+1,q2,Γ3,by go_num,by omega,rfl,HA4.out,HX4.out,HV4.out,HST.out⟩
     . have hfix:∀ x,q1 x=true↔imgN (E xs u) (fun i=>q i=true) ln x:=by
         have hsame:∀ x,q2 x=true↔q1 x=true:=fun x=>zjc HV4.out HV5.out (fun i hi=>HB.out.1 rfl i (by have:=HM.out ();omega)) x
         have hf:∀ x,img (E xs u) (imgN (E xs u) (fun i=>q i=true) j) x↔imgN (E xs u) (fun i=>q i=true) j x:=fun x=>((HST.out x).symm.trans (hsame x)).trans (HQ1.out x)
         intro x;rw[HQ1.out x,show ln=j+(ln-j) by omega,←zca];exact (zeh hf (ln-j) x).symm
       have HAT:=HA4;have HXT:=HX4;have HVT:=HV5;have HQT:=Zh hfix;clear hfix HB HST;obtain⟨gn2,on2,kn2,m1,m2,m3,curm,m4⟩:=(HAT.out.inv.inv.part g o _ (HXT.out.F _ _ _ HE.out)).2.node;have m5:=m2 5 _ rfl;have m6:=m2 6 _ rfl;rw[show (T.mk 4 noneP (ln:Int) hn [u]).lo=(ln:Int) from rfl] at m5;rw[show (T.mk 4 noneP (ln:Int) hn [u]).hi=(hn:Int) from rfl] at m6;have HCL:=Zh (zgi _ 0 m _ _ (by have h1:=HVT.out.pl;rwa [HM.out ()] at h1) hm0 hm);unfold RetPl at HCL;have M1:=Zh m1;have M5:=Zh m5;have M6:=Zh m6;have HL1:=Zh (HAT.out.inv.inv.old (HXT.out.F _ _ _ HE.out));have HL2:=Zh (za0 m4);clear m1 m2 m3 m4 m5 m6;go_wp2_with (go_at_call 97;(with_reducible refine HCL.out.mono ?_);rintro e4 w4 ⟨vg,rfl,hvg,hb4⟩;have k1:=(hb4.cell (p:=⟨g,o,none⟩) HL1.out).trans M1.out;have k5:=(hb4.cell (p:=⟨gn2,on2+5,none⟩) HL2.out).trans M5.out;have k6:=(hb4.cell (p:=⟨gn2,on2+6,none⟩) HL2.out).trans M6.out;have HVG:=Zh hvg;have HB4:=Zh hb4;clear hvg hb4);go_quiet (fail);go_wp2;have hbq:=below_drewN HB4.out nq;have HA6:=Zh (HAT.out.stays hbq);have HX6:=Zh (HXT.out.trans (Ext.stays _ hbq HAT.out.le));have HV6:=Zh (HVT.out.stays hbq);have HG6:=Zh (Mine.new (w0:=w) HAT.out.inv (HVG.out.stays (below_drewN (Below.refl _ _) nq)) HXT.out.below.size);have HD:=Zh (fun _:Unit=>hb1);obtain⟨d,hd⟩:∃ d:Nat,d=hn-ln:=⟨_,rfl⟩;rw[show (hn:Int)-(ln:Int)=(d:Int) by omega];have HDD:=Zh (fun _:Unit=>hd);have hd32:d<=32:=(by omega);clear hbq k1 k5 k6 hd;generalize w4.drewN nq=w9 at *;go_loopg [10,49] d (fun m' fr i wr2=>∃ (j2:Nat) (qf qg:Nat->Bool) (Γ2:Ghost),i = .int .i64 (j2:Int)∧j2<=d∧m'=d-j2∧Ask wr2 B xs A Γ2∧Ext B w wr2 Γ Γ2∧InW wr2 xs fr qf∧Mine w wr2 B Γ2 vg m qg∧(∀ x,qg x=true->x<=xs.length)∧Found (E xs u) (imgN (E xs u) (fun i=>q i=true) ln) j2 (fun x=>qg x=true) (fun x=>qf x=true))
       case atStart =>
         refine⟨0,_,_,_,rfl,Nat.zero_le _,rfl,HA6.out,HX6.out,HV6.out,HG6.out,HV6.out.le,?_⟩;have hs:=Found.start (E xs u) (imgN (E xs u) (fun i=>q i=true) ln);have hfe:=funext fun x=>propext (HQT.out x)
         rw[←hfe] at hs;rw[←hfe];exact hs
       case round =>
         obtain⟨j2,qf,qg,Γ7,rfl,hj2,hmj2,ha7,hx7,hv7,hg7,hle7,hf7⟩:=hrel;have HMJ2:=Zh hmj2;have HA7:=Zh ha7;have HX7:=Zh hx7;have HV7:=Zh hv7;have HG7:=Zh hg7;have HLE7:=Zh hle7;have HF7:=Zh hf7;clear hmj2 ha7 hx7 hv7 hg7 hle7 hf7
         by_cases hlt2:j2<d
         . have hji2:(j2:Int)<(d:Int):=(by omega);go_wp2_with (first
             | (go_at_call 51;(with_reducible refine (HKID.out _ _ HA7.out (HX7.out.F _ _ _ HE.out)).mono ?_);rintro e1 w1 ⟨g1,o1,Γ8,rfl,hf1,hi1,hx2,hM2⟩;have HA8:=Zh (zd9 HA7.out hi1 hx2 hM2);have HX8:=Zh hx2;have HF1:=Zh hf1;clear hf1 hi1 hx2 hM2)
             | (go_at_call 29;(with_reducible refine (HEND.out _ _ _ _ _ _ HA8.out HF1.out (HV7.out.ext HX8.out)).mono ?_);rintro e2 w2 ⟨v2,q2,Γ9,rfl,hi3,hx3,hv3,hq3⟩;have HA9:=Zh (HA8.out.ext hx3 hi3);have HX9:=Zh hx3;have HV9:=Zh hv3;have HQ9:=Zh hq3;have HG9:=Zh ((HG7.out.ext HX8.out).ext HX9.out);have hwi:=zet w2 0 w.heap.size m v2 vg q2 qg (by have h1:=HV9.out.pl;rwa [HM.out ()] at h1) HG9.out.pl hm0 hm;unfold RetPl at hwi;have HWI:=Zh hwi;clear hi3 hx3 hv3 hq3 hwi)
             | (go_at_call 98;(with_reducible refine HWI.out.mono ?_);rintro e5 w5 ⟨v5,rfl,hv5,hb5⟩;have HV5:=Zh hv5;have HB5:=Zh hb5;clear hv5 hb5))
           have hno:=zk3 w5 w2.heap.size m v5 (minusP q2 qg) HV5.out hm0 hm;have HNO:=Zh hno;clear hno;go_at_call 50
           with_reducible refine HNO.out.mono ?_
           rintro e6 w6 ⟨b6,rfl,hb6,rfl⟩;have HB6:=Zh hb6;have HA10:=Zh (HA9.out.stays HB5.out);have HX10:=Zh (((HX7.out.trans HX8.out).trans HX9.out).trans (Ext.stays _ HB5.out HA9.out.le));have HG10:=Zh (HG9.out.kept HB5.out);have hq9:=HQ9.out;have hle9:∀ x,q2 x=true->x<=xs.length:=HV9.out.le;have HLE9:=Zh hle9;clear hb6 hq9 hle9 HNO HWI;cases b6
           . have hjo:=zcn w5 w.heap.size w2.heap.size m vg v5 qg (minusP q2 qg) HG10.out.pl HV5.out HX10.out.below.size hm0 hm;unfold RetOwn at hjo;have HJO:=Zh hjo;clear hjo;go_wp2_with (go_at_call 53;(with_reducible refine HJO.out.mono ?_);rintro e7 w7 ⟨rfl,hv7,hg7⟩;have HV7':=Zh hv7;have HG7':=Zh hg7;clear hv7 hg7);go_roundg (d-(j2+1))
             case measure=>have:=HMJ2.out;omega
             case rel =>
               obtain⟨z1,z2,z3⟩:=HG10.out.set hm0 HA10.out.inv HX10.out HV7'.out HG7'.out HH.out.le;have hleo:∀ x,orP qg (minusP q2 qg) x=true->x<=xs.length:=fun x hx=>by
                 simp only[orP,minusP,Bool.or_eq_true,Bool.and_eq_true] at hx;rcases hx with hx|hx
                 . exact HLE7.out x hx
                 . exact HLE9.out x hx.1
               refine⟨j2+1,minusP q2 qg,orP qg (minusP q2 qg),_,by go_num,by omega,rfl,HH.out.ext z2 z1,z2,⟨?_,fun x hx=>?_⟩,z3,hleo,HF7.out.step (fun x=>?_) (fun x=>?_)⟩
               . have:=Pl.apart HV5.out HG9.out.pl (Nat.le_refl _) HG7'.out;rw[HM.out ()];exact this.lower (Nat.zero_le _)
               . simp only[minusP,Bool.and_eq_true] at hx;exact HLE9.out x hx.1
               . rw[←HQ9.out x];simp[minusP]
               . simp[orP]
           . go_wp2;go_ret;have hz:∀ x,img (E xs u) (fun i=>qf i=true) x->qg x=true:=fun x hx=>by
               have h1:=(HQ9.out x).2 hx;have h2:=HLE9.out x h1;have h3:=HB6.out.1 (by trivial) x (by have:=HM.out ();omega);simp only[minusP,h1,Bool.true_and] at h3
               simpa using h3
             refine⟨vg,qg,_,rfl,HA10.out.inv,HX10.out,by rw[HM.out ()];exact HG10.out,HLE7.out,fun x=>?_⟩;rw[zcc (by omega) (by have:=HD.out ();omega)];have:=HF7.out.stop hz (d-j2) x;rw[show j2+(d-j2)=d by omega] at this;rw[this,show (ln:Int).toNat=ln by omega,show ((hn:Int)-(ln:Int)).toNat=d by have:=HDD.out ();omega]
         . have hjd:j2=d:=(by omega);have hji2:¬ ((j2:Int)<(d:Int)):=(by omega);have HJD:=Zh (fun _:Unit=>hjd);clear hlt2 hjd;go_wp2;go_ret;refine⟨vg,qg,_,rfl,HA7.out.inv,HX7.out,by rw[HM.out ()];exact HG7.out,HLE7.out,fun x=>?_⟩;rw[zcc (by omega) (by have:=HD.out ();omega)];have:=HF7.out.all x;rw[HJD.out ()] at this;rw[this,show (ln:Int).toNat=ln by omega,show ((hn:Int)-(ln:Int)).toNat=d by have:=HDD.out ();omega]
   ·
       have hjn:j=ln:=(by omega);have HAT:=HA1;have HXT:=HX1;have HVT:=HV1;have HQT:=Zh (fun x=>(HQ1.out x).trans (by rw[hjn]));have hji:¬ ((j:Int)<(ln:Int)):=(by omega);clear hlt hjn;obtain⟨gn2,on2,kn2,m1,m2,m3,curm,m4⟩:=(HAT.out.inv.inv.part g o _ (HXT.out.F _ _ _ HE.out)).2.node;have m5:=m2 5 _ rfl;have m6:=m2 6 _ rfl;rw[show (T.mk 4 noneP (ln:Int) hn [u]).lo=(ln:Int) from rfl] at m5;rw[show (T.mk 4 noneP (ln:Int) hn [u]).hi=(hn:Int) from rfl] at m6;have HCL:=Zh (zgi _ 0 m _ _ (by have h1:=HVT.out.pl;rwa [HM.out ()] at h1) hm0 hm);unfold RetPl at HCL;have M1:=Zh m1;have M5:=Zh m5;have M6:=Zh m6;have HL1:=Zh (HAT.out.inv.inv.old (HXT.out.F _ _ _ HE.out));have HL2:=Zh (za0 m4);clear m1 m2 m3 m4 m5 m6;go_wp2_with (go_at_call 97;(with_reducible refine HCL.out.mono ?_);rintro e4 w4 ⟨vg,rfl,hvg,hb4⟩;have k1:=(hb4.cell (p:=⟨g,o,none⟩) HL1.out).trans M1.out;have k5:=(hb4.cell (p:=⟨gn2,on2+5,none⟩) HL2.out).trans M5.out;have k6:=(hb4.cell (p:=⟨gn2,on2+6,none⟩) HL2.out).trans M6.out;have HVG:=Zh hvg;have HB4:=Zh hb4;clear hvg hb4);go_quiet (fail);go_wp2;have hbq:=below_drewN HB4.out nq;have HA6:=Zh (HAT.out.stays hbq);have HX6:=Zh (HXT.out.trans (Ext.stays _ hbq HAT.out.le));have HV6:=Zh (HVT.out.stays hbq);have HG6:=Zh (Mine.new (w0:=w) HAT.out.inv (HVG.out.stays (below_drewN (Below.refl _ _) nq)) HXT.out.below.size);have HD:=Zh (fun _:Unit=>hb1);obtain⟨d,hd⟩:∃ d:Nat,d=hn-ln:=⟨_,rfl⟩;rw[show (hn:Int)-(ln:Int)=(d:Int) by omega];have HDD:=Zh (fun _:Unit=>hd);have hd32:d<=32:=(by omega);clear hbq k1 k5 k6 hd;generalize w4.drewN nq=w9 at *;go_loopg [10,49] d (fun m' fr i wr2=>∃ (j2:Nat) (qf qg:Nat->Bool) (Γ2:Ghost),i = .int .i64 (j2:Int)∧j2<=d∧m'=d-j2∧Ask wr2 B xs A Γ2∧Ext B w wr2 Γ Γ2∧InW wr2 xs fr qf∧Mine w wr2 B Γ2 vg m qg∧(∀ x,qg x=true->x<=xs.length)∧Found (E xs u) (imgN (E xs u) (fun i=>q i=true) ln) j2 (fun x=>qg x=true) (fun x=>qf x=true))
       case atStart =>
         refine⟨0,_,_,_,rfl,Nat.zero_le _,rfl,HA6.out,HX6.out,HV6.out,HG6.out,HV6.out.le,?_⟩;have hs:=Found.start (E xs u) (imgN (E xs u) (fun i=>q i=true) ln);have hfe:=funext fun x=>propext (HQT.out x)
         rw[←hfe] at hs;rw[←hfe];exact hs
       case round =>
         obtain⟨j2,qf,qg,Γ7,rfl,hj2,hmj2,ha7,hx7,hv7,hg7,hle7,hf7⟩:=hrel;have HMJ2:=Zh hmj2;have HA7:=Zh ha7;have HX7:=Zh hx7;have HV7:=Zh hv7;have HG7:=Zh hg7;have HLE7:=Zh hle7;have HF7:=Zh hf7;clear hmj2 ha7 hx7 hv7 hg7 hle7 hf7
         by_cases hlt2:j2<d
         . have hji2:(j2:Int)<(d:Int):=(by omega);go_wp2_with (first
             | (go_at_call 51;(with_reducible refine (HKID.out _ _ HA7.out (HX7.out.F _ _ _ HE.out)).mono ?_);rintro e1 w1 ⟨g1,o1,Γ8,rfl,hf1,hi1,hx2,hM2⟩;have HA8:=Zh (zd9 HA7.out hi1 hx2 hM2);have HX8:=Zh hx2;have HF1:=Zh hf1;clear hf1 hi1 hx2 hM2)
             | (go_at_call 29;(with_reducible refine (HEND.out _ _ _ _ _ _ HA8.out HF1.out (HV7.out.ext HX8.out)).mono ?_);rintro e2 w2 ⟨v2,q2,Γ9,rfl,hi3,hx3,hv3,hq3⟩;have HA9:=Zh (HA8.out.ext hx3 hi3);have HX9:=Zh hx3;have HV9:=Zh hv3;have HQ9:=Zh hq3;have HG9:=Zh ((HG7.out.ext HX8.out).ext HX9.out);have hwi:=zet w2 0 w.heap.size m v2 vg q2 qg (by have h1:=HV9.out.pl;rwa [HM.out ()] at h1) HG9.out.pl hm0 hm;unfold RetPl at hwi;have HWI:=Zh hwi;clear hi3 hx3 hv3 hq3 hwi)
             | (go_at_call 98;(with_reducible refine HWI.out.mono ?_);rintro e5 w5 ⟨v5,rfl,hv5,hb5⟩;have HV5:=Zh hv5;have HB5:=Zh hb5;clear hv5 hb5))
           have hno:=zk3 w5 w2.heap.size m v5 (minusP q2 qg) HV5.out hm0 hm;have HNO:=Zh hno;clear hno;go_at_call 50
           with_reducible refine HNO.out.mono ?_
           rintro e6 w6 ⟨b6,rfl,hb6,rfl⟩;have HB6:=Zh hb6;have HA10:=Zh (HA9.out.stays HB5.out);have HX10:=Zh (((HX7.out.trans HX8.out).trans HX9.out).trans (Ext.stays _ HB5.out HA9.out.le));have HG10:=Zh (HG9.out.kept HB5.out);have hq9:=HQ9.out;have hle9:∀ x,q2 x=true->x<=xs.length:=HV9.out.le;have HLE9:=Zh hle9;clear hb6 hq9 hle9 HNO HWI;cases b6
           . have hjo:=zcn w5 w.heap.size w2.heap.size m vg v5 qg (minusP q2 qg) HG10.out.pl HV5.out HX10.out.below.size hm0 hm;unfold RetOwn at hjo;have HJO:=Zh hjo;clear hjo;go_wp2_with (go_at_call 53;(with_reducible refine HJO.out.mono ?_);rintro e7 w7 ⟨rfl,hv7,hg7⟩;have HV7':=Zh hv7;have HG7':=Zh hg7;clear hv7 hg7);go_roundg (d-(j2+1))
             case measure=>have:=HMJ2.out;omega
             case rel =>
               obtain⟨z1,z2,z3⟩:=HG10.out.set hm0 HA10.out.inv HX10.out HV7'.out HG7'.out HH.out.le;have hleo:∀ x,orP qg (minusP q2 qg) x=true->x<=xs.length:=fun x hx=>by
                 simp only[orP,minusP,Bool.or_eq_true,Bool.and_eq_true] at hx;rcases hx with hx|hx
                 . exact HLE7.out x hx
                 . exact HLE9.out x hx.1
               refine⟨j2+1,minusP q2 qg,orP qg (minusP q2 qg),_,by go_num,by omega,rfl,HH.out.ext z2 z1,z2,⟨?_,fun x hx=>?_⟩,z3,hleo,HF7.out.step (fun x=>?_) (fun x=>?_)⟩
               . have:=Pl.apart HV5.out HG9.out.pl (Nat.le_refl _) HG7'.out;rw[HM.out ()];exact this.lower (Nat.zero_le _)
               . simp only[minusP,Bool.and_eq_true] at hx;exact HLE9.out x hx.1
               . rw[←HQ9.out x];simp[minusP]
               . simp[orP]
           . go_wp2;go_ret;have hz:∀ x,img (E xs u) (fun i=>qf i=true) x->qg x=true:=fun x hx=>by
               have h1:=(HQ9.out x).2 hx;have h2:=HLE9.out x h1;have h3:=HB6.out.1 (by trivial) x (by have:=HM.out ();omega);simp only[minusP,h1,Bool.true_and] at h3
               simpa using h3
             refine⟨vg,qg,_,rfl,HA10.out.inv,HX10.out,by rw[HM.out ()];exact HG10.out,HLE7.out,fun x=>?_⟩;rw[zcc (by omega) (by have:=HD.out ();omega)];have:=HF7.out.stop hz (d-j2) x;rw[show j2+(d-j2)=d by omega] at this;rw[this,show (ln:Int).toNat=ln by omega,show ((hn:Int)-(ln:Int)).toNat=d by have:=HDD.out ();omega]
         . have hjd:j2=d:=(by omega);have hji2:¬ ((j2:Int)<(d:Int)):=(by omega);have HJD:=Zh (fun _:Unit=>hjd);clear hlt2 hjd;go_wp2;go_ret;refine⟨vg,qg,_,rfl,HA7.out.inv,HX7.out,by rw[HM.out ()];exact HG7.out,HLE7.out,fun x=>?_⟩;rw[zcc (by omega) (by have:=HD.out ();omega)];have:=HF7.out.all x;rw[HJD.out ()] at this;rw[this,show (ln:Int).toNat=ln by omega,show ((hn:Int)-(ln:Int)).toNat=d by have:=HDD.out ();omega]
end
end Go.Proofs.YtgbdanddbgomhaaGreatDoor
