import Derived.Test.YtgbdanddbgomhaaDoorMw33
set_option linter.unusedVariables false
set_option linter.unusedSimpArgs false
namespace Go.Proofs.YtgbdanddbgomhaaDoor
open Go Go.RowKit
section
attribute [local go_sem ↓] Go.wp_at_zero Go.wp_at_succ
theorem RetEndsP.congr {B:Nat} {w w':World} {xs:List Int} {Γ:Ghost} {P Q:Nat->Prop} {e:Ending} (h:RetEndsP B w xs Γ P e w') (hq:∀ x,P x↔Q x):RetEndsP B w xs Γ Q e w':=by
 obtain⟨v,q,Γ',h1,h2,h3,h4,h5⟩:=h;exact⟨v,q,Γ',h1,h2,h3,h4,fun x=>(h5 x).trans (hq x)⟩
set_option maxRecDepth 20000 in
set_option maxHeartbeats 2000000 in
theorem zpu {w:World} {B c:Nat} {xs:List Int} {A:Option Addr} {Γ:Ghost} {g o:Nat} {l:List T} {v:Value} {q:Nat->Bool} (ih:∀ u∈l,EndsP u) (h:Ask w B xs A Γ) (e:Γ.F g o=some (.mk 2 noneP 0 0 l)) (hv:InW w xs v q):
   Calls Tryd.prog 33 #[.pointer (some ⟨g,o,none⟩),.slice A xs.length c,v] w (RetEndsP B w xs Γ (img (ECat xs l) fun i=>q i=true)):=by
 have hkid:∀ W Γ' (j:Nat) (hj:j<l.length),Ask W B xs A Γ'->Γ'.F g o=some (.mk 2 noneP 0 0 l)->Calls Tryd.prog 62 #[.pointer (some ⟨g,o,none⟩),.int .i64 j] W (RetKid B W xs Γ' (l[j]'hj)):=fun W Γ' j hj ha he=>zvi ha.inv.inv ha.le he j hj
 unfold RetKid at hkid;have hend:∀ u,u∈l->∀ W Γ' g' o' v' q',Ask W B xs A Γ'->Γ'.F g' o'=some u->InW W xs v' q'->Calls Tryd.prog 33 #[.pointer (some ⟨g',o',none⟩),.slice A xs.length c,v'] W (RetEndsP B W xs Γ' (img (E xs u) fun i=>q' i=true)):=fun u hu W Γ' g' o' v' q' ha he hv=>ih u hu W B c xs A Γ' g' o' v' q' ha he hv
 unfold RetEndsP at hend;have hm:xs.length / 64+1<=1000000:=(by have:=h.len;omega);have hm0:0<xs.length / 64+1:=(by omega);have hp:=(h.inv.inv.part g o _ e).2;have hlen:=h.len;have hn202:l.length<=202:=by
   have hwf:=hp.wf;cases hwf <;> assumption
 obtain⟨gn,on,kn,n1,n2,n3,curn,n4⟩:=hp.node;obtain⟨A',nk,ck,rfl⟩:=n3.form;obtain⟨hnk,_⟩:=n3.bound;have hnl:nk=l.length:=hnk;have n0:w.cell? ⟨gn,on,none⟩=some (.int .i64 2):=n2 0 _ rfl;have n7:w.cell? ⟨gn,on+7,none⟩=some (.slice A' nk ck):=n2 7 _ rfl;have HKID:=Zh hkid;have HEND:=Zh hend;have HH:=Zh h;have HE:=Zh e;have HV:=Zh hv;have HNL:=Zh (fun _:Unit=>hnl);have HNW:=Zh (zco w xs.length (by omega));unfold RetPl at HNW;have HGN:=Zh (za0 n4);have hnk2:nk<=202:=(by omega);clear hkid hend h e hv hp n2 n3 hnk hnl n4 ih hn202;go_enter Tryd.func33,Tryd.ntmps33;go_wp2;go_loopg [2,33] nk (fun m' now i wr=>∃ (j:Nat) (q':Nat->Bool) (Γ':Ghost),i = .int .i64 (j:Int)∧j<=nk∧m'=nk-j∧Ask wr B xs A Γ'∧Ext B w wr Γ Γ'∧InW wr xs now q'∧∀ x,q' x=true↔img (ECat xs (l.take j)) (fun i=>q i=true) x)
 case atStart=>exact⟨0,q,Γ,rfl,Nat.zero_le _,rfl,HH.out,Ext.refl _ _ _,HV.out,fun x=>by simp[img,ECat]⟩
 case round =>
   obtain⟨j,q1,Γ1,rfl,hj,hmj,ha1,hx1,hv1,hq1⟩:=hrel;have HMJ:=Zh hmj;have HA1:=Zh ha1;have HX1:=Zh hx1;have HV1:=Zh hv1;have HQ1:=Zh hq1;clear hmj ha1 hx1 hv1 hq1
   by_cases hlt:j<nk
   . have hji:(j:Int)<(nk:Int):=(by omega);have hjl:j<l.length:=(by have:=HNL.out ();omega);have HNO:=Zh (zqa wr 0 (xs.length / 64+1) u2 q1 HV1.out.pl hm0 hm);have hst:∀ x,img (E xs (l[j]'hjl)) (fun i=>q1 i=true) x↔img (ECat xs (l.take (j+1))) (fun i=>q i=true) x:=fun x=>by
       rw[zfs (fun i=>HQ1.out i) x];constructor
       . rintro⟨y,⟨i,hi,h1⟩,h2⟩;exact⟨i,hi,(zk6 l j hjl i x).2 ⟨y,h1,h2⟩⟩
       . rintro⟨i,hi,h1⟩;obtain⟨y,h2,h3⟩:=(zk6 l j hjl i x).1 h1;exact⟨y,⟨i,hi,h2⟩,h3⟩
     have HST:=Zh hst;have HKJ:=Zh (HKID.out wr Γ1 j hjl HA1.out (HX1.out.F _ _ _ HE.out));have HMEM:=Zh (List.getElem_mem hjl);clear hst;generalize l[j]'hjl=u at *;go_wp2_with fail;go_at_call 61
     with_reducible refine HNO.out.mono ?_
     rintro e6 w6 ⟨b6,rfl,hb6,rfl⟩;have HB6:=Zh hb6;clear hb6 HNO;cases b6
     . go_wp2_with (first
         | (go_at_call 62;(with_reducible refine HKJ.out.mono ?_);rintro e1 w1 ⟨g1,o1,Γ2,rfl,hf1,hi1,hx2,hM2⟩;have HA2:=Zh (zg5 HA1.out hi1 hx2 hM2);have HX2:=Zh hx2;have HF1:=Zh hf1;clear hf1 hi1 hx2 hM2)
         | (go_at_call 33;(with_reducible refine (HEND.out u HMEM.out _ _ _ _ _ _ HA2.out HF1.out (HV1.out.ext HX2.out)).mono ?_);rintro e2 w2 ⟨v2,q2,Γ3,rfl,hi3,hx3,hv3,hq3⟩;have HA3:=Zh (HA2.out.ext hx3 hi3);have HX3:=Zh hx3;have HV3:=Zh hv3;have HQ3:=Zh hq3;clear hi3 hx3 hv3 hq3))
       go_roundg (nk-(j+1))
       case measure=>have:=HMJ.out;omega
       case rel=>exact⟨j+1,q2,Γ3,by go_num,by omega,rfl,HA3.out,(HX1.out.trans HX2.out).trans HX3.out,HV3.out,fun x=>(HQ3.out x).trans (HST.out x)⟩
     . go_wp2;go_ret;refine⟨u2,q1,Γ1,rfl,HA1.out.inv,HX1.out,HV1.out,fun x=>?_⟩;have hz:∀ x,¬ q1 x=true:=fun x hx=>by
         have h1:=HV1.out.le x hx;have h2:=HB6.out.1 (by trivial) x (by omega);rw[h2] at hx;cases hx
       constructor
       . intro hx;exact absurd hx (hz x)
       . rintro⟨i,hi,hE⟩;have hsp:l=l.take j++l.drop j:=(List.take_append_drop j l).symm;rw[hsp,zn3] at hE;obtain⟨y,h1,_⟩:=hE;exact absurd ((HQ1.out y).2 ⟨i,hi,h1⟩) (hz y)
   . have hjn:j=l.length:=(by have:=HNL.out ();omega);have hji:¬ ((j:Int)<(nk:Int)):=(by omega);have HJN:=Zh (fun _:Unit=>hjn);clear hlt hjn;go_wp2;go_ret;refine⟨u2,q1,Γ1,rfl,HA1.out.inv,HX1.out,HV1.out,fun x=>?_⟩;have:=HQ1.out x
     rwa [HJN.out (),List.take_length] at this
theorem zoo {xs:List Int} {l:List T} {j:Nat} (h:j<l.length) {S:Nat->Prop} (x:Nat):img (EAny xs (l.take (j+1))) S x↔img (EAny xs (l.take j)) S x∨img (E xs (l[j]'h)) S x:=by
 constructor
 . rintro⟨i,hi,h1⟩;rcases (zg8 l j h i x).1 h1 with h2|h2
   . exact .inl ⟨i,hi,h2⟩
   . exact .inr ⟨i,hi,h2⟩
 . rintro (⟨i,hi,h1⟩|⟨i,hi,h1⟩)
   . exact⟨i,hi,(zg8 l j h i x).2 (.inl h1)⟩
   . exact⟨i,hi,(zg8 l j h i x).2 (.inr h1)⟩
set_option maxRecDepth 20000 in
set_option maxHeartbeats 2000000 in
theorem zpv {w:World} {B c:Nat} {xs:List Int} {A:Option Addr} {Γ:Ghost} {g o:Nat} {l:List T} {v:Value} {q:Nat->Bool} (ih:∀ u∈l,EndsP u) (h:Ask w B xs A Γ) (e:Γ.F g o=some (.mk 3 noneP 0 0 l)) (hv:InW w xs v q):
   Calls Tryd.prog 33 #[.pointer (some ⟨g,o,none⟩),.slice A xs.length c,v] w (RetEndsP B w xs Γ (img (EAny xs l) fun i=>q i=true)):=by
 have hkid:∀ W Γ' (j:Nat) (hj:j<l.length),Ask W B xs A Γ'->Γ'.F g o=some (.mk 3 noneP 0 0 l)->Calls Tryd.prog 62 #[.pointer (some ⟨g,o,none⟩),.int .i64 j] W (RetKid B W xs Γ' (l[j]'hj)):=fun W Γ' j hj ha he=>zvi ha.inv.inv ha.le he j hj
 unfold RetKid at hkid;have hend:∀ u,u∈l->∀ W Γ' g' o' v' q',Ask W B xs A Γ'->Γ'.F g' o'=some u->InW W xs v' q'->Calls Tryd.prog 33 #[.pointer (some ⟨g',o',none⟩),.slice A xs.length c,v'] W (RetEndsP B W xs Γ' (img (E xs u) fun i=>q' i=true)):=fun u hu W Γ' g' o' v' q' ha he hv=>ih u hu W B c xs A Γ' g' o' v' q' ha he hv
 unfold RetEndsP at hend;have hm:xs.length / 64+1<=1000000:=(by have:=h.len;omega);have hm0:0<xs.length / 64+1:=(by omega);have hp:=(h.inv.inv.part g o _ e).2;have hlen:=h.len;have hn202:l.length<=202:=by
   have hwf:=hp.wf;cases hwf <;> assumption
 obtain⟨gn,on,kn,n1,n2,n3,curn,n4⟩:=hp.node;obtain⟨A',nk,ck,rfl⟩:=n3.form;obtain⟨hnk,_⟩:=n3.bound;have hnl:nk=l.length:=hnk;have n0:w.cell? ⟨gn,on,none⟩=some (.int .i64 3):=n2 0 _ rfl;have n7:w.cell? ⟨gn,on+7,none⟩=some (.slice A' nk ck):=n2 7 _ rfl;have HKID:=Zh hkid;have HEND:=Zh hend;have HH:=Zh h;have HE:=Zh e;have HV:=Zh hv;have HNL:=Zh (fun _:Unit=>hnl);have HNW:=Zh (zco w xs.length (by omega));unfold RetPl at HNW;have HGN:=Zh (za0 n4);have hnk2:nk<=202:=(by omega);clear hkid hend h e hv hp n2 n3 hnk hnl n4 ih hn202;go_enter Tryd.func33,Tryd.ntmps33;have N1:=Zh n1;have N7:=Zh n7;have HGW:=Zh (HH.out.inv.inv.old HE.out);go_wp2_with (go_at_call 63;(with_reducible refine HNW.out.mono ?_);rintro e1 w1 ⟨vg,rfl,hvg,hb1⟩;have k1:=(hb1.cell (p:=⟨g,o,none⟩) HGW.out).trans N1.out;have k7:=(hb1.cell (p:=⟨gn,on+7,none⟩) HGN.out).trans N7.out;have HVG:=Zh hvg;have HB1:=Zh hb1;clear hvg hb1);have HMI:=Zh (Mine.new (w0:=w) HH.out.inv HVG.out (Nat.le_refl _));have HA0:=Zh (HH.out.stays HB1.out);have HX0:=Zh (Ext.stays Γ HB1.out HH.out.le);have HV0:=Zh (HV.out.stays HB1.out);clear k1 k7;go_loopg [59] nk (fun m' i wr=>∃ (j:Nat) (qg:Nat->Bool) (Γ':Ghost),i = .int .i64 (j:Int)∧j<=nk∧m'=nk-j∧Ask wr B xs A Γ'∧Ext B w wr Γ Γ'∧InW wr xs v q∧Mine w wr B Γ' vg (xs.length / 64+1) qg∧(∀ x,qg x=true->x<=xs.length)∧∀ x,qg x=true↔img (EAny xs (l.take j)) (fun i=>q i=true) x)
 case atStart=>exact⟨0,noneP,Γ,rfl,Nat.zero_le _,rfl,HA0.out,HX0.out,HV0.out,HMI.out,fun x hx=>by simp[noneP] at hx,fun x=>by simp[img,EAny,noneP]⟩
 case round =>
   obtain⟨j,qg,Γ1,rfl,hj,hmj,ha1,hx1,hv1,hg1,hle1,hq1⟩:=hrel;have HMJ:=Zh hmj;have HA1:=Zh ha1;have HX1:=Zh hx1;have HV1:=Zh hv1;have HG1:=Zh hg1;have HLE1:=Zh hle1;have HQ1:=Zh hq1;clear hmj ha1 hx1 hv1 hg1 hle1 hq1
   by_cases hlt:j<nk
   . have hji:(j:Int)<(nk:Int):=(by omega);have hjl:j<l.length:=(by have:=HNL.out ();omega);have HST:=Zh (fun x=>zoo (xs:=xs) hjl (S:=fun i=>q i=true) x);have HKJ:=Zh (HKID.out wr Γ1 j hjl HA1.out (HX1.out.F _ _ _ HE.out));have HMEM:=Zh (List.getElem_mem hjl);generalize l[j]'hjl=u at *;go_wp2_with (first
       | (go_at_call 62;(with_reducible refine HKJ.out.mono ?_);rintro e1 w1 ⟨g1,o1,Γ2,rfl,hf1,hi1,hx2,hM2⟩;have HA2:=Zh (zg5 HA1.out hi1 hx2 hM2);have HX2:=Zh hx2;have HF1:=Zh hf1;clear hf1 hi1 hx2 hM2)
       | (go_at_call 33;(with_reducible refine (HEND.out u HMEM.out _ _ _ _ _ _ HA2.out HF1.out (HV1.out.ext HX2.out)).mono ?_);rintro e2 w2 ⟨v2,q2,Γ3,rfl,hi3,hx3,hv3,hq3⟩;have HA3:=Zh (HA2.out.ext hx3 hi3);have HX3:=Zh hx3;have HV3:=Zh hv3;have HQ3:=Zh hq3;have HG3:=Zh ((HG1.out.ext HX2.out).ext hx3);have HX4:=Zh ((HX1.out.trans HX2.out).trans hx3);have hjo:=zer w2 w.heap.size 0 (xs.length / 64+1) vg v2 qg q2 HG3.out.pl hv3.pl HX4.out.below.size hm0 hm;unfold RetOwn at hjo;have HJO:=Zh hjo;clear hi3 hx3 hv3 hq3 hjo)
       | (go_at_call 64;(with_reducible refine HJO.out.mono ?_);rintro e7 w7 ⟨rfl,hv7,hg7⟩;have HV7:=Zh hv7;have HG7:=Zh hg7;clear hv7 hg7))
     go_roundg (nk-(j+1))
     case measure=>have:=HMJ.out;omega
     case rel =>
       obtain⟨z1,z2,z3⟩:=HG3.out.set hm0 HA3.out.inv HX4.out HV7.out HG7.out HH.out.le;have hin:InW w7 xs v q:=by
         have h1:=(HV1.out.ext HX2.out).ext HX3.out;have h2:=HV.out.ext z2;exact h2
       refine⟨j+1,orP qg q2,Γ3,by go_num,by omega,rfl,HH.out.ext z2 z1,z2,hin,z3,fun x hx=>?_,fun x=>?_⟩
       . simp only[orP,Bool.or_eq_true] at hx;rcases hx with hx|hx
         . exact HLE1.out x hx
         . exact HV3.out.le x hx
       . rw[HST.out x,←HQ1.out x,←HQ3.out x];simp[orP]
   . have hjn:j=l.length:=(by have:=HNL.out ();omega);have hji:¬ ((j:Int)<(nk:Int)):=(by omega);have HJN:=Zh (fun _:Unit=>hjn);clear hlt hjn;go_wp2;go_ret;refine⟨vg,qg,Γ1,rfl,HA1.out.inv,HX1.out,⟨HG1.out.pl.lower (Nat.zero_le _),HLE1.out⟩,fun x=>?_⟩;have:=HQ1.out x
     rwa [HJN.out (),List.take_length] at this
set_option maxRecDepth 20000 in
set_option maxHeartbeats 1000000 in
theorem zpt {w:World} {B c:Nat} {xs:List Int} {A:Option Addr} {Γ:Ghost} {g o:Nat} {p:Nat->Bool} {v:Value} {q:Nat->Bool} (h:Ask w B xs A Γ) (e:Γ.F g o=some (.mk 1 p 0 0 [])) (hv:InW w xs v q):
   Calls Tryd.prog 33 #[.pointer (some ⟨g,o,none⟩),.slice A xs.length c,v] w (RetEndsP B w xs Γ (img (E xs (.mk 1 p 0 0 [])) fun i=>q i=true)):=by
 have hbe:=zud (c:=c) h e rfl hv;have HBE:=Zh hbe;obtain⟨gn,on,kn,n1,n2,n3,curn,n4⟩:=(h.inv.inv.part g o _ e).2.node;have n0:w.cell? ⟨gn,on,none⟩=some (.int .i64 1):=n2 0 _ rfl;clear hbe n2 n3 n4 h e hv;go_enter Tryd.func33,Tryd.ntmps33;go_wp2_with (go_at_call 60;(with_reducible refine HBE.out.mono ?_);rintro e1 w1 hr;have HR:=Zh hr.plain;obtain⟨v1,q1,Γ1,rfl,hr2⟩:=hr;clear hr2);go_ret;exact HR.out
set_option maxRecDepth 20000 in
set_option maxHeartbeats 1000000 in
theorem zps {w:World} {B c:Nat} {xs:List Int} {A:Option Addr} {Γ:Ghost} {g o ln hn:Nat} {u:T} {v:Value} {q:Nat->Bool} (ih:EndsP u) (h:Ask w B xs A Γ) (e:Γ.F g o=some (.mk 4 noneP ln hn [u])) (hv:InW w xs v q):
   Calls Tryd.prog 33 #[.pointer (some ⟨g,o,none⟩),.slice A xs.length c,v] w (RetEndsP B w xs Γ (img (E xs (.mk 4 noneP ln hn [u])) fun i=>q i=true)):=by
 have hbe:=zuu (c:=c) ih h e hv;have HBE:=Zh hbe;obtain⟨gn,on,kn,n1,n2,n3,curn,n4⟩:=(h.inv.inv.part g o _ e).2.node;have n0:w.cell? ⟨gn,on,none⟩=some (.int .i64 4):=n2 0 _ rfl;clear hbe n2 n3 n4 h e hv ih;go_enter Tryd.func33,Tryd.ntmps33;go_wp2_with (go_at_call 65;(with_reducible refine HBE.out.mono ?_);rintro e1 w1 hr;have HR:=Zh hr.plain;obtain⟨v1,q1,Γ1,rfl,hr2⟩:=hr;clear hr2);go_ret;exact HR.out
theorem zhw:∀ (N:Nat) (t:T),SizeOf.sizeOf t<=N->WF t->EndsP t
 | 0,t,h,_=>by obtain⟨op,p,lo,hi,l⟩:=t;simp at h
 | N+1,t,h,hw=>by
   have small:∀ (op:Int) (p:Nat->Bool) (lo hi:Int) (l:List T),t = .mk op p lo hi l->∀ u∈l,SizeOf.sizeOf u<=N:=fun op p lo hi l e u hu=>by
     have:=List.sizeOf_lt_of_mem hu;rw[e] at h;simp at h;omega
   intro w B c xs A Γ g o v q ha he hv;cases hw with
   | one p=>exact zpt ha he hv
   | cat l h2 hN hk=>exact (zpu (fun u hu=>zhw N u (small _ _ _ _ _ rfl u hu) (hk u hu)) ha he hv).mono fun e w' hr=>hr.congr fun x=>by simp[img,zom]
   | alt l h2 hN hk=>exact (zpv (fun u hu=>zhw N u (small _ _ _ _ _ rfl u hu) (hk u hu)) ha he hv).mono fun e w' hr=>hr.congr fun x=>by simp[img,zon]
   | rep m n u h0 h1 h2 h3 hk =>
     obtain⟨ln,rfl⟩:∃ k:Nat,m=k:=⟨m.toNat,by omega⟩;obtain⟨hn,rfl⟩:∃ k:Nat,n=k:=⟨n.toNat,by omega⟩;exact zps (zhw N u (small _ _ _ _ _ rfl u (by simp)) hk) ha he hv
theorem zv4 (t:T) (h:WF t):EndsP t:=zhw _ t (Nat.le_refl _) h
end
end Go.Proofs.YtgbdanddbgomhaaDoor
