import Derived.Test.YtgbdanddbgomhaaGreatDoorMs7
set_option linter.unusedVariables false
set_option linter.unusedSimpArgs false
namespace Go.Proofs.YtgbdanddbgomhaaGreatDoor
open Go Go.RowKit
def RetPar (w:World) (r:Except (Int×Nat) (List Ru)) (e:Ending) (w':World):Prop:=match r with
 | .ok l=>(∃ A c,e = .returned (.tuple #[.slice A l.length c,.nilIface])∧RdRu w' A l)∧Below w.heap.size w w'
 | .error (c,k)=>(∃ gs,e = .returned (.tuple #[.slice none 0 0,.iface 69 (.pointer (some ⟨gs,0,none⟩))])∧w'.heap[gs]?=some (.cells #[.int .i64 (k:Int),.int .i64 c] 73 (0,0))∧w.heap.size<=gs)∧Below w.heap.size w w'
def MaxL (w:World):Prop:=∃ m,w.cell? ⟨2,0,none⟩=some (.int .i64 m)
theorem MaxL.stays {w w':World} (h:MaxL w) (hb:Below w.heap.size w w'):MaxL w':=h.elim fun m hm=>⟨m,za2 hm hb⟩
theorem zmr (w:World) (s:ByteArray) (hs:s.size<=100000) (h:MaxL w):
   Calls Tryz.prog 35 #[.string s,.string ⟨#[10]⟩] w fun e w'=>e = .returned (.slice (some ⟨w.heap.size,0,none⟩) (linesB s).length (linesB s).length)∧RdStr w' (some ⟨w.heap.size,0,none⟩) (linesB s)∧Below w.heap.size w w':=by
 obtain⟨m,hm⟩:=h;have hl:(linesB s).length=Lib.countB s nlT+1:=(by rw[←zgr];exact Lib.splitB_all nlT (by decide) 0 _ s rfl);rw[hl];refine (zck s nlT m w (by omega) hm (by decide)).mono ?_;rintro e w' ⟨rfl,rfl⟩;rw[zgr];exact⟨rfl,zmt w _,(Below.refl _ _).alloc (Nat.le_refl _) _⟩
theorem zic (s:ByteArray):(linesB s).length<=s.size+1:=by
 unfold linesB;have:=zff s s.size;simp;omega
theorem zlx {α:Type} (l:List α) (k:Nat) (x:α) (h:l[k]?=some x):l.drop k=x::l.drop (k+1):=by
 obtain⟨hl,e⟩:=List.getElem?_eq_some_iff.1 h;rw[←e];exact List.drop_eq_getElem_cons hl
theorem zd2 (w:World) (o o':Obj):((w.alloc o).alloc o').heap[w.heap.size+1]?=some o':=by
 have:=heap_alloc_new (w.alloc o) o'
 simpa using this
theorem zl4 (W:World) (y:Ru):∀ (j:Nat) u,(ruC y)[j]?=some u->(W.alloc (.cells #[.string y.name,.string y.pat,.bool y.luhn] 58)).cell? ((⟨W.heap.size,0,none⟩:Addr).add j)=some u:=by
 intro j u hu;have hj:(⟨W.heap.size,0,none⟩:Addr).add j=⟨W.heap.size,j,none⟩:=(by unfold Addr.add;simp;intro h;exact h.symm);rw[hj,cell_of_row _ W.heap.size j _ 58 (0,0) (heap_alloc_new W _)]
 simpa [ruC] using hu
theorem zg7 {x:ByteArray} (h:x.size=0∨bt x 0=35) (r:List ByteArray) (k:Nat) (acc:List Ru):parseL (x::r) k acc=parseL r (k+1) acc:=by rw[parseL,if_pos h]
theorem zg9 {x:ByteArray} (h:¬ (x.size=0∨bt x 0=35)) (hr:ruleT x=none) (r:List ByteArray) (k:Nat) (acc:List Ru):parseL (x::r) k acc = .error (2,k):=by rw[parseL,if_neg h,hr]
theorem zf4 {x:ByteArray} {y:Ru} (h:¬ (x.size=0∨bt x 0=35)) (hr:ruleT x=some y) (r:List ByteArray) (k:Nat) (acc:List Ru) (hn:hasName acc y.name=true):parseL (x::r) k acc = .error (8,k):=by
 rw[parseL,if_neg h,hr];exact if_pos hn
theorem zf5 {x:ByteArray} {y:Ru} (h:¬ (x.size=0∨bt x 0=35)) (hr:ruleT x=some y) (r:List ByteArray) (k:Nat) (acc:List Ru) (hn:hasName acc y.name=false) (h8:acc.length=8):parseL (x::r) k acc = .error (4,k):=by
 rw[parseL,if_neg h,hr];unfold hasName at hn;simp only[hn,Bool.false_eq_true,if_false,h8,if_true]
theorem zg8 {x:ByteArray} {y:Ru} (h:¬ (x.size=0∨bt x 0=35)) (hr:ruleT x=some y) (r:List ByteArray) (k:Nat) (acc:List Ru) (hn:hasName acc y.name=false) (h8:¬ acc.length=8):parseL (x::r) k acc=parseL r (k+1) (acc++[y]):=by
 rw[parseL,if_neg h,hr];unfold hasName at hn;simp only[hn,Bool.false_eq_true,if_false,h8]
set_option maxRecDepth 20000 in
set_option maxHeartbeats 4000000 in
theorem zk0 (w:World) (s:ByteArray) (hs:s.size<=100000) (hm:MaxL w):Calls Tryz.prog 17 #[.string s] w (RetPar w (parseR s)):=by
 by_cases hbig:4000<s.size
 . rw[show parseR s = .error (4,0) from by unfold parseR;rw[if_pos hbig]];have h1:(4000:Int)<(s.size:Int):=(by omega);go_enter Tryz.func17,Tryz.ntmps17;go_wp2;go_ret2;exact⟨⟨_,rfl,heap_alloc_new w _,Nat.le_refl _⟩,(Below.refl _ _).alloc (Nat.le_refl _) _⟩
 have h1:¬ (4000:Int)<(s.size:Int):=(by omega);have HP:Hid (parseR s=parseL ((linesB s).drop 0) 0 []):=Zh (by unfold parseR;rw[if_neg hbig];rfl);have hll:=zic s;have HS:=Zh (zmr w s hs hm);obtain⟨ls,hls⟩:∃ ls,linesB s=ls:=⟨_,rfl⟩;rw[hls] at HP HS hll;obtain⟨R,hR⟩:∃ R,parseR s=R:=⟨_,rfl⟩;rw[hR] at HP ⊢;have HLS:Hid (∀ x∈ls,x.size<=100000):=Zh (by
   intro x hx;rw[←hls] at hx;have hm':=zcz s x hx;omega)
 clear hls hR;obtain⟨N,hN⟩:∃ N,ls.length=N:=⟨_,rfl⟩;rw[hN] at HS hll;have HN:Hid (ls.length=N):=Zh hN;clear hN;have hN2:N<=100001:=(by omega);clear hll hs hbig;go_enter Tryz.func17,Tryz.ntmps17;go_wp2_with (go_at_call 35;(with_reducible refine HS.out.mono ?_);rintro e w1 ⟨rfl,hrd,hb1⟩);have HRD:=Zh hrd;have HB1:=Zh hb1;clear hrd hb1 h1;go_loopg [4,18] N (fun mm v i wr=>∃ (k:Nat) (acc:List Ru),i = .int .i64 (k:Int)∧k<=N∧mm=N-k∧RuRow wr w1.heap.size v acc∧acc.length<=8∧Below w1.heap.size w1 wr∧R=parseL (ls.drop k) k acc)
 case atStart=>exact⟨0,[],rfl,Nat.zero_le _,rfl,RuRow.nil _ _,Nat.zero_le _,Below.refl _ _,HP.out⟩
 case round =>
   obtain⟨k,acc,rfl,hk,hmk,hv,hacc,hbw,hq⟩:=hrel;have HMK:=Zh hmk;obtain⟨A,c,rfl⟩:=hv.form;obtain⟨M,hM⟩:∃ M,acc.length=M:=⟨_,rfl⟩;rw[hM] at hv hacc ⊢;have HV:=Zh hv;have HNM:Hid (∀ (W:World) (s:ByteArray),RdRu W A acc->Calls Tryz.prog 37 #[.slice A M c,.string s] W fun e w'=>e = .returned (.bool (hasName acc s))∧Below W.heap.size W w'):=Zh (fun W s h=>by rw[←hM];exact zk9 W A c acc s (by omega) h);have HMM:=Zh hM;clear hM;have HBW:=Zh hbw;have HSZ:Hid (w.heap.size<=wr.heap.size):=Zh (Nat.le_trans HB1.out.size hbw.size);have HBX:Hid (Below w.heap.size w wr):=Zh (gro HB1.out hbw);have HACC:=Zh hacc;have HQ0:=Zh hq;clear hmk hv hbw hacc hq
   by_cases hkN:k<N
   . have hkN':(k:Int)<(N:Int):=(by omega);obtain⟨x,hx⟩:∃ x,ls[k]?=some x:=⟨_,List.getElem?_eq_getElem (by rw[HN.out];exact hkN)⟩;obtain⟨g,off,e0,hg,c0⟩:=(HRD.out.stays HBW.out) k x hx;injection e0 with e0
     injection e0 with e1 e2 _
     subst e1 e2;rw[Nat.zero_add] at c0;have HQ1:Hid (R=parseL (x::ls.drop (k+1)) k acc):=Zh (by rw[HQ0.out,zlx ls k x hx]);have HXS:=Zh (HLS.out x (List.mem_of_getElem? hx));clear hx
     by_cases hskip:x.size=0∨bt x 0=35
     . have HQ:Hid (R=parseL (ls.drop (k+1)) (k+1) acc):=Zh (by rw[HQ1.out,zg7 hskip])
       by_cases hz:x.size=0
       . have e5:(x.toList==[])=true:=(zbd x #[]).trans (decide_eq_true (zd7 (by
           have:x.data.toList.length=0:=by simpa using hz
           exact List.length_eq_zero_iff.1 this)))
         clear hskip hz;go_wp2;go_roundg (N-(k+1))
         case measure=>have:=HMK.out;omega
         case rel=>exact⟨k+1,acc,by go_num,by omega,rfl,HV.out,by rw[HMM.out];exact HACC.out,HBW.out,HQ.out⟩
       . have hks:0<x.size:=(by omega);have h35:bt x 0=35:=hskip.resolve_left hz;have hbe:(x[0]'hks).toNat=35:=(zko x 0 hks).symm.trans h35;have e5:(x.toList==[])=false:=(zbd x #[]).trans (decide_eq_false fun e=>hz (by rw[e];rfl));have hks':(0:Int)<(x.size:Int):=(by omega);clear hskip hz h35;go_wp2;go_roundg (N-(k+1))
         case measure=>have:=HMK.out;omega
         case rel=>exact⟨k+1,acc,by go_num,by omega,rfl,HV.out,by rw[HMM.out];exact HACC.out,HBW.out,HQ.out⟩
     . have hks:0<x.size:=(by omega);have hbe:(x[0]'hks).toNat=bt x 0:=(zko x 0 hks).symm;have h35:bt x 0≠35:=fun e=>hskip (.inr e)
       have e6:((bt x 0:Int)==35)=false:=beq_eq_false_iff_ne.2 (by omega);have e5:(x.toList==[])=false:=(zbd x #[]).trans (decide_eq_false fun e=>hskip (.inl (by rw[e];rfl)));have hks':(0:Int)<(x.size:Int):=(by omega);obtain⟨BB,hBB⟩:∃ BB,bt x 0=BB:=⟨_,rfl⟩;rw[hBB] at hbe e6;have HSK:=Zh hskip;have HRR:=Zh (read_p wr x HXS.out);clear hskip hBB h35;unfold RetRule at HRR;cases hr:ruleT x with
       | none =>
         have HQ:Hid (R = .error (2,k)):=Zh (by rw[HQ1.out,zg9 HSK.out hr]);rw[hr] at HRR;clear hr;unfold ruV at HRR;go_wp2_with (first
           | (go_at_call 36;(with_reducible refine HRR.out.mono ?_);rintro e w2 ⟨⟨r,rfl,_⟩,hb2⟩;have HB2:=Zh hb2;clear hb2))
         go_ret2;rw[HQ.out];exact⟨⟨_,rfl,zd2 _ _ _,Nat.le_succ_of_le (Nat.le_trans HSZ.out HB2.out.size)⟩,((gro HBX.out HB2.out).alloc (gro HBX.out HB2.out).size _).alloc (by have:=(gro HBX.out HB2.out).size;simp;omega) _⟩
       | some y =>
         rw[hr] at HRR;have HRY:=Zh hr;clear hr;unfold ruV at HRR;obtain⟨yn,yp,yl⟩:=y;cases hn:hasName acc yn with
         | true =>
           have HQ:Hid (R = .error (8,k)):=Zh (by rw[HQ1.out,zf4 HSK.out HRY.out _ _ _ hn]);have HN2:Hid (∀ (W:World),RdRu W A acc->Calls Tryz.prog 37 #[.slice A M c,.string yn] W fun e w'=>e = .returned (.bool true)∧Below W.heap.size W w'):=Zh fun W h=>by rw[←hn];exact HNM.out W yn h
           clear hn;go_wp2_with (first
             | (go_at_call 36;(with_reducible refine HRR.out.mono ?_);rintro e w2 ⟨⟨r,rfl,hy⟩,hb2⟩;have hy':=hy _ rfl;subst hy';clear hy;have HB2:=Zh hb2;clear hb2;have HB3:Hid (Below w.heap.size w (w2.alloc (.cells #[.string yn,.string yp,.bool yl] 58))):=Zh ((gro HBX.out HB2.out).alloc (gro HBX.out HB2.out).size _))
             | (go_at_call 37;(with_reducible refine (HN2.out _ ((HV.out.stays (HB2.out.alloc HB2.out.size _)).rd)).mono ?_);rintro e w4 ⟨rfl,hb4⟩;have HB4:Hid (Below w.heap.size w w4):=Zh (gro HB3.out hb4);clear hb4))
           go_ret2;rw[HQ.out];exact⟨⟨_,rfl,heap_alloc_new _ _,HB4.out.size⟩,HB4.out.alloc HB4.out.size _⟩
         | false =>
           have HN2:Hid (∀ (W:World),RdRu W A acc->Calls Tryz.prog 37 #[.slice A M c,.string yn] W fun e w'=>e = .returned (.bool false)∧Below W.heap.size W w'):=Zh fun W h=>by rw[←hn];exact HNM.out W yn h
           have HNN:=Zh hn;clear hn
           by_cases h8:M=8
           . have HQ:Hid (R = .error (4,k)):=Zh (by rw[HQ1.out,zf5 HSK.out HRY.out _ _ _ HNN.out (by rw[HMM.out];exact h8)]);subst h8;go_wp2_with (first
               | (go_at_call 36;(with_reducible refine HRR.out.mono ?_);rintro e w2 ⟨⟨r,rfl,hy⟩,hb2⟩;have hy':=hy _ rfl;subst hy';clear hy;have HB2:=Zh hb2;clear hb2;have HB3:Hid (Below w.heap.size w (w2.alloc (.cells #[.string yn,.string yp,.bool yl] 58))):=Zh ((gro HBX.out HB2.out).alloc (gro HBX.out HB2.out).size _);have HBB:Hid (RB (w2.alloc (.cells #[.string yn,.string yp,.bool yl] 58)) w2.heap.size ⟨yn,yp,yl⟩):=Zh (RB.new w2 ⟨yn,yp,yl⟩))
               | (go_at_call 37;(with_reducible refine (HN2.out _ ((HV.out.stays (HB2.out.alloc HB2.out.size _)).rd)).mono ?_);rintro e w4 ⟨rfl,hb4⟩;have HB4:Hid (Below w.heap.size w w4):=Zh (gro HB3.out hb4);have hbx:=HBB.out.stays hb4;obtain⟨x0,x1,x2⟩:=hbx.cell;simp only at x0 x1 x2;have HV4:=Zh ((HV.out.stays (HB2.out.alloc HB2.out.size (.cells #[.string yn,.string yp,.bool yl] 58))).stays hb4);have HB1W:Hid (Below w1.heap.size w1 w4):=Zh (gro (gro HBW.out (HB2.out.alloc HB2.out.size (.cells #[.string yn,.string yp,.bool yl] 58))) hb4);clear hb4 hbx))
             go_ret2;rw[HQ.out];exact⟨⟨_,rfl,heap_alloc_new _ _,HB4.out.size⟩,HB4.out.alloc HB4.out.size _⟩
           . have HQ:Hid (R=parseL (ls.drop (k+1)) (k+1) (acc++[⟨yn,yp,yl⟩])):=Zh (by rw[HQ1.out,zg8 HSK.out HRY.out _ _ _ HNN.out (by rw[HMM.out];exact h8)]);have h8':¬ (M:Int)=8:=(by omega);have H7:Hid (M<8):=Zh (by have:=HACC.out;omega);clear h8;go_wp2_with (first
               | (go_at_call 36;(with_reducible refine HRR.out.mono ?_);rintro e w2 ⟨⟨r,rfl,hy⟩,hb2⟩;have hy':=hy _ rfl;subst hy';clear hy;have HB2:=Zh hb2;clear hb2;have HB3:Hid (Below w.heap.size w (w2.alloc (.cells #[.string yn,.string yp,.bool yl] 58))):=Zh ((gro HBX.out HB2.out).alloc (gro HBX.out HB2.out).size _);have HBB:Hid (RB (w2.alloc (.cells #[.string yn,.string yp,.bool yl] 58)) w2.heap.size ⟨yn,yp,yl⟩):=Zh (RB.new w2 ⟨yn,yp,yl⟩))
               | (go_at_call 37;(with_reducible refine (HN2.out _ ((HV.out.stays (HB2.out.alloc HB2.out.size _)).rd)).mono ?_);rintro e w4 ⟨rfl,hb4⟩;have HB4:Hid (Below w.heap.size w w4):=Zh (gro HB3.out hb4);have hbx:=HBB.out.stays hb4;obtain⟨x0,x1,x2⟩:=hbx.cell;simp only at x0 x1 x2;have HV4:=Zh ((HV.out.stays (HB2.out.alloc HB2.out.size (.cells #[.string yn,.string yp,.bool yl] 58))).stays hb4);have HB1W:Hid (Below w1.heap.size w1 w4):=Zh (gro (gro HBW.out (HB2.out.alloc HB2.out.size (.cells #[.string yn,.string yp,.bool yl] 58))) hb4);clear hb4 hbx)
               | (at_builtin;refine zj9 (by rfl) _ _ (by rfl) (by rfl) (HV4.out.stays ((Below.refl _ _).alloc (Nat.le_refl _) _)) (Nat.le_trans HB1W.out.size (by simp)) (by have:=HMM.out;have:=H7.out;omega) ⟨yn,yp,yl⟩ ⟨w4.heap.size,0,none⟩ 1 (by rfl) (zl4 w4 ⟨yn,yp,yl⟩) ?_;intro v5 w5 o5 g5 _;have O5:=Zh o5;have B5:Hid (Below w1.heap.size w1 w5):=Zh ((HB1W.out.alloc HB1W.out.size _).grown g5 (by have:=HB1W.out.size;simp;omega) fun b e=>(HV4.out.in b e).1);clear o5 g5))
             go_roundg (N-(k+1))
             case measure=>have:=HMK.out;omega
             case rel=>exact⟨k+1,_,by go_num,by omega,rfl,O5.out,by rw[List.length_append,HMM.out];have:=H7.out;simp;omega,B5.out,HQ.out⟩
   . have hkl:k=N:=(by omega);subst hkl;have HQ:Hid (R = .ok acc):=Zh (by rw[HQ0.out,List.drop_of_length_le (by rw[HN.out];exact Nat.le_refl _)];rfl);go_wp2;go_ret2;rw[HQ.out];exact⟨⟨A,c,by rw[HMM.out];rfl,HV.out.rd⟩,HBX.out⟩
end Go.Proofs.YtgbdanddbgomhaaGreatDoor
