import Derived.Test.YtgbdanddbgomhaaGreatDoorMv11
set_option linter.unusedVariables false
set_option linter.unusedSimpArgs false
namespace Go.Proofs.YtgbdanddbgomhaaGreatDoor
open Go Go.RowKit
def RetRules14 (w:World) (r:Except (Int×Nat) (List Ru)) (e:Ending) (w':World):Prop:=match r with
 | .ok l=>(∃ A c,e = .returned (.tuple #[.slice A l.length c,.int .i64 0,.int .i64 0])∧RdRu w' A l)∧Below w.heap.size w w'
 | .error (c,k)=>e = .returned (.tuple #[.slice none 0 0,.int .i64 c,.int .i64 (k:Int)])∧Below w.heap.size w w'
set_option maxRecDepth 20000 in
set_option maxHeartbeats 4000000 in
theorem zq0 (w:World) (s:ByteArray) (hs:s.size<=100000):Calls Tryz.prog 21 #[.string s] w (RetRules14 w (parseR s)):=by
 by_cases hbig:4000<s.size
 . rw[show parseR s = .error (4,0) from by unfold parseR;rw[if_pos hbig]];have h1:(4000:Int)<(s.size:Int):=(by omega);go_enter Tryz.func21,Tryz.ntmps21;go_wp2;refine bodyPost_ret (results_tmp3 rfl _ _ _) rfl ?_;exact⟨rfl,Below.refl _ _⟩
 have h1:¬ (4000:Int)<(s.size:Int):=(by omega);have HP:Hid (parseR s=parseL ((linesB s).drop 0) 0 []):=Zh (by unfold parseR;rw[if_neg hbig];rfl);have hll:=zfw s;have HS:=Zh (zq2 w s (by omega));obtain⟨ls,hls⟩:∃ ls,linesB s=ls:=⟨_,rfl⟩;rw[hls] at HP HS hll;obtain⟨R,hR⟩:∃ R,parseR s=R:=⟨_,rfl⟩;rw[hR] at HP ⊢;have HLS:Hid (∀ x∈ls,x.size<=100000):=Zh (by
   intro x hx;rw[←hls] at hx;have hm':=zcy s x hx;omega)
 clear hls hR;obtain⟨N,hN⟩:∃ N,ls.length=N:=⟨_,rfl⟩;rw[hN] at HS hll;have HN:Hid (ls.length=N):=Zh hN;clear hN;have hN2:N<=100001:=(by omega);clear hll hs hbig;go_enter Tryz.func21,Tryz.ntmps21;go_wp2_with (go_at_call 44;(with_reducible refine HS.out.mono ?_);rintro e w1 ⟨LA,LC,rfl,hrd,hb1⟩);have HRD:=Zh hrd;have HB1:=Zh hb1;clear hrd hb1 h1;go_loopg [5,7] N (fun mm v i wr=>∃ (k:Nat) (acc:List Ru),i = .int .i64 (k:Int)∧k<=N∧mm=N-k∧RuRow wr w1.heap.size v acc∧acc.length<=8∧Below w1.heap.size w1 wr∧R=parseL (ls.drop k) k acc)
 case atStart=>exact⟨0,[],rfl,Nat.zero_le _,rfl,RuRow.nil _ _,Nat.zero_le _,Below.refl _ _,HP.out⟩
 case round =>
   obtain⟨k,acc,rfl,hk,hmk,hv,hacc,hbw,hq⟩:=hrel;have HMK:=Zh hmk;obtain⟨A,c,rfl⟩:=hv.form;obtain⟨M,hM⟩:∃ M,acc.length=M:=⟨_,rfl⟩;rw[hM] at hv hacc ⊢;have HV:=Zh hv;have HMM:=Zh hM;clear hM;have HBW:=Zh hbw;have HSZ:Hid (w.heap.size<=wr.heap.size):=Zh (Nat.le_trans HB1.out.size hbw.size);have HBX:Hid (Below w.heap.size w wr):=Zh (gro HB1.out hbw);have HACC:=Zh hacc;have HQ0:=Zh hq;clear hmk hv hbw hacc hq
   by_cases hkN:k<N
   . have hkN':(k:Int)<(N:Int):=(by omega);obtain⟨x,hx⟩:∃ x,ls[k]?=some x:=⟨_,List.getElem?_eq_getElem (by rw[HN.out];exact hkN)⟩;obtain⟨g,off,rfl,hg,c0⟩:=(HRD.out.stays HBW.out) k x hx;have HQ1:Hid (R=parseL (x::ls.drop (k+1)) k acc):=Zh (by rw[HQ0.out,zjw ls k x hx]);have HXS:=Zh (HLS.out x (List.mem_of_getElem? hx));clear hx
     by_cases hz:x.size=0
     . have HQ:Hid (R=parseL (ls.drop (k+1)) (k+1) acc):=Zh (by rw[HQ1.out,zcw (.inl hz)]);have e5:(x.toList==[])=true:=(zb0 x #[]).trans (decide_eq_true (zdj (by
         have:x.data.toList.length=0:=by simpa using hz
         exact List.length_eq_zero_iff.1 this)))
       clear hz;go_wp2;go_roundg (N-(k+1))
       case measure=>have:=HMK.out;omega
       case rel=>exact⟨k+1,acc,by go_num,by omega,rfl,HV.out,by rw[HMM.out];exact HACC.out,HBW.out,HQ.out⟩
     have hks:0<x.size:=(by omega);have hks':(0:Int)<(x.size:Int):=(by omega);have e5:(x.toList==[])=false:=(zb0 x #[]).trans (decide_eq_false fun e=>hz (by rw[e];rfl))
     by_cases h35:bt x 0=35
     . have HQ:Hid (R=parseL (ls.drop (k+1)) (k+1) acc):=Zh (by rw[HQ1.out,zcw (.inr h35)]);have hbe:(x[0]'hks).toNat=35:=(zdw x 0 hks).symm.trans h35;clear hz h35;go_wp2;go_roundg (N-(k+1))
       case measure=>have:=HMK.out;omega
       case rel=>exact⟨k+1,acc,by go_num,by omega,rfl,HV.out,by rw[HMM.out];exact HACC.out,HBW.out,HQ.out⟩
     . have hbe:(x[0]'hks).toNat=bt x 0:=(zdw x 0 hks).symm;have e6:((bt x 0:Int)==35)=false:=beq_eq_false_iff_ne.2 (by omega);have HSK:Hid (¬ (x.size=0∨bt x 0=35)):=Zh fun h=>h.elim hz h35
       obtain⟨BB,hBB⟩:∃ BB,bt x 0=BB:=⟨_,rfl⟩;rw[hBB] at hbe e6;have HRR:=Zh (zry wr x HXS.out);clear hz hBB h35;unfold RetRule at HRR;cases hr:ruleT x with
       | none =>
         have HQ:Hid (R = .error (2,k)):=Zh (by rw[HQ1.out,zer HSK.out hr]);rw[hr] at HRR;clear hr;unfold ruV at HRR;go_wp2_with (first
           | (go_at_call 45;(with_reducible refine HRR.out.mono ?_);rintro e w2 ⟨⟨r,rfl,_⟩,hb2⟩;have HB2:=Zh hb2;clear hb2))
         refine bodyPost_ret (results_tmp3 rfl _ _ _) rfl ?_;rw[HQ.out];exact⟨rfl,(gro HBX.out HB2.out).alloc (gro HBX.out HB2.out).size _⟩
       | some y =>
         rw[hr] at HRR;have HRY:=Zh hr;clear hr;unfold ruV at HRR;obtain⟨yn,yp,yl⟩:=y;have HM8:M<=8:=HACC.out;go_wp2_with (first
           | (go_at_call 45;(with_reducible refine HRR.out.mono ?_);rintro e w2 ⟨⟨r,rfl,hy⟩,hb2⟩;have hy':=hy _ rfl;subst hy';clear hy;have HB2:=Zh hb2;clear hb2;have HB3:Hid (Below w.heap.size w (w2.alloc (.cells #[.string yn,.string yp,.bool yl] 58))):=Zh ((gro HBX.out HB2.out).alloc (gro HBX.out HB2.out).size _);have HBB:Hid (RB (w2.alloc (.cells #[.string yn,.string yp,.bool yl] 58)) w2.heap.size ⟨yn,yp,yl⟩):=Zh (RB.new w2 ⟨yn,yp,yl⟩);have HV4:=Zh (HV.out.stays (HB2.out.alloc HB2.out.size (.cells #[.string yn,.string yp,.bool yl] 58)));have HB1W:=Zh (gro HBW.out (HB2.out.alloc HB2.out.size (.cells #[.string yn,.string yp,.bool yl] 58)))))
         obtain⟨w4,hw4⟩:∃ w4,w2.alloc (.cells #[.string yn,.string yp,.bool yl] 58)=w4:=⟨_,rfl⟩;rw[hw4] at HB3 HBB HV4 HB1W ⊢;clear hw4;go_loopg [10] M (fun mm q ws=>∃ j:Nat,q = .int .i64 (j:Int)∧j<=M∧mm=M-j∧(∀ i z,i<j->acc[i]?=some z->z.name≠yn)∧Below w4.heap.size w4 ws)
         case atStart=>exact⟨0,rfl,Nat.zero_le _,rfl,fun i z h=>absurd h (Nat.not_lt_zero _),Below.refl _ _⟩
         case round =>
           obtain⟨j,rfl,hj,hmj,hno,hbs⟩:=hrel;have HMJ:=Zh hmj;have HNO:=Zh hno;have HBS:=Zh hbs;have HV5:=Zh (HV4.out.stays hbs);have HBY:Hid (Below w.heap.size w wr):=Zh (gro HB3.out hbs);have HB1Y:Hid (Below w1.heap.size w1 wr):=Zh (gro HB1W.out hbs);obtain⟨x0,x1,x2⟩:=(HBB.out.stays hbs).cell;simp only at x0 x1 x2;clear hmj hno hbs
           by_cases hjM:j<M
           . have hjM':(j:Int)<(M:Int):=(by omega);obtain⟨z,hz⟩:∃ z,acc[j]?=some z:=⟨_,List.getElem?_eq_getElem (by rw[HMM.out];exact hjM)⟩;obtain⟨gz,oz,rfl,hgz,d0,d1,d2⟩:=HV5.out.rd j z hz;have HZ:=Zh hz;clear hz;obtain⟨zn,zp,zl⟩:=z;simp only at d0 d1 d2
             by_cases he:zn=yn
             . have hb:(zn.toList==yn.toList)=true:=(by rw[zej,he];simp);have HQ:Hid (R = .error (8,k)):=Zh (by rw[HQ1.out,zdz HSK.out HRY.out _ _ _ (zf0 acc yn j _ HZ.out he)]);clear he;go_wp2;go_quiet (fail);go_wp2;refine bodyPost_ret (results_tmp3 rfl _ _ _) rfl ?_;rw[HQ.out];exact⟨rfl,zai HBY.out _⟩
             . have hb:(zn.toList==yn.toList)=false:=(by rw[zej];simp[he]);have HE:=Zh he;clear he;go_wp2;go_quiet (fail);go_wp2;go_roundg (M-(j+1))
               case measure=>have:=HMJ.out;omega
               case rel=>exact⟨j+1,by go_num,by omega,rfl,fun i y hi hy=>(by rcases Nat.lt_succ_iff_lt_or_eq.1 hi with h' | rfl;exact HNO.out i y h' hy;rw[HZ.out] at hy;cases hy;exact HE.out),zai HBS.out _⟩
           . have hjl:j=M:=(by omega);subst hjl;have HNN:=Zh (zfz acc yn fun i z hz=>HNO.out i z (by have:=(List.getElem?_eq_some_iff.1 hz).1;rw[HMM.out] at this;exact this) hz)
             by_cases h8:j=8
             . have HQ:Hid (R = .error (4,k)):=Zh (by rw[HQ1.out,ze0 HSK.out HRY.out _ _ _ HNN.out (by rw[HMM.out];exact h8)]);subst h8;go_wp2;refine bodyPost_ret (results_tmp3 rfl _ _ _) rfl ?_;rw[HQ.out];exact⟨rfl,HBY.out⟩
             . have HQ:Hid (R=parseL (ls.drop (k+1)) (k+1) (acc++[⟨yn,yp,yl⟩])):=Zh (by rw[HQ1.out,zeq HSK.out HRY.out _ _ _ HNN.out (by rw[HMM.out];exact h8)]);have h8':¬ (j:Int)=8:=(by omega);have H7:Hid (j<8):=Zh (by omega);clear h8;go_wp2_with (first
                 | (at_builtin;refine zh8 (by rfl) _ _ (by rfl) (by rfl) (HV5.out.stays ((Below.refl _ _).alloc (Nat.le_refl _) _)) (Nat.le_trans HB1Y.out.size (by simp)) (by have:=HMM.out;have:=H7.out;omega) ⟨yn,yp,yl⟩ ⟨wr.heap.size,0,none⟩ 1 (by rfl) (zj6 wr ⟨yn,yp,yl⟩) ?_;intro v5 w5 o5 g5 _;have O5:=Zh o5;have B5:Hid (Below w1.heap.size w1 w5):=Zh ((HB1Y.out.alloc HB1Y.out.size _).grown g5 (by have:=HB1Y.out.size;simp;omega) fun b e=>(HV5.out.in b e).1);clear o5 g5)
                 | fail)
               go_roundg (N-(k+1))
               case measure=>have:=HMK.out;omega
               case rel=>exact⟨k+1,_,by go_num,by omega,rfl,O5.out,by rw[List.length_append,HMM.out];have:=H7.out;simp;omega,B5.out,HQ.out⟩
   . have hkl:k=N:=(by omega);subst hkl;have HQ:Hid (R = .ok acc):=Zh (by rw[HQ0.out,List.drop_of_length_le (by rw[HN.out];exact Nat.le_refl _)];rfl);go_wp2;refine bodyPost_ret (results_tmp3 rfl _ _ _) rfl ?_;rw[HQ.out];exact⟨⟨A,c,by rw[HMM.out];rfl,HV.out.rd⟩,HBX.out⟩
end Go.Proofs.YtgbdanddbgomhaaGreatDoor
