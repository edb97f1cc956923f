import Derived.Test.YtgbdanddbgomhaaGreatDoorMs3
import Derived.Test.YtgbdanddbgomhaaGreatDoorMs1
import Derived.BigRegion
set_option linter.unusedVariables false
set_option linter.unusedSimpArgs false
namespace Go.Proofs.YtgbdanddbgomhaaGreatDoor
open Go Go.RowKit
set_option maxHeartbeats 400000 in
theorem okb_p (w:World) (b:Nat) (hb:b<256):Calls Tryz.prog 85 #[.int .u8 (b:Int)] w fun e w'=>e = .returned (.bool (okB b))∧w'=w:=by
 have hi:∃ B:Int,B=(b:Int)∧okB b=(decide (97<=B∧B<=122)||decide (48<=B∧B<=57)||decide (B=45)||decide (B=95)):=⟨_,rfl,by unfold okB;congr 1;congr 1;congr 1 <;> (congr 1;apply propext;omega);all_goals (congr 1;apply propext;omega)⟩;obtain⟨B,hB,he⟩:=hi;rw[he,←hB];clear he hB hb;go_enter Tryz.func85,Tryz.ntmps85
 by_cases h1:97<=B <;> by_cases h2:B<=122 <;> by_cases h3:48<=B <;> by_cases h4:B<=57 <;> by_cases h5:B=45 <;> by_cases h6:B=95
 all_goals first
   | omega
   | (go_wp2
      go_ret;refine⟨?_,rfl⟩
      first
        | (simp[h1,h2,h3,h4,h5,h6];done)
        | (simp[h1,h2,h3,h4,h5,h6];rw[Bool.eq_iff_iff];simp;omega))
set_option maxHeartbeats 400000 in
theorem zdi (w:World) (s:ByteArray) (hs:s.size<=100000):Calls Tryz.prog 61 #[.string s] w fun e w'=>e = .returned (.string s)∧Below w.heap.size w w':=by
 have H:=Zh (zbs s w (by omega));go_enter Tryz.func61,Tryz.ntmps61;go_wp2_with (go_at_call 86;(with_reducible refine H.out.mono ?_);rintro e w1 ⟨rfl,hb⟩);go_ret;exact⟨rfl,hb⟩
set_option maxHeartbeats 1000000 in
theorem zlo (w:World) (s:ByteArray) (hs:s.size<=100000):Calls Tryz.prog 60 #[.string s] w fun e w'=>e = .returned (.bool (nameOk s))∧w'=w:=by
 by_cases h0:1<=s.size∧s.size<=16
 . have hN:=zdk s;obtain⟨N,hNs⟩:∃ N,s.size=N:=⟨_,rfl⟩;go_enter Tryz.func60,Tryz.ntmps60;go_wp2;go_loopg [14] N (fun mm i wr=>∃ k:Nat,i = .int .i64 (k:Int)∧k<=N∧mm=N-k∧(∀ j,j<k->okB (bt s j)=true)∧wr=w)
   case atStart=>exact⟨0,rfl,Nat.zero_le _,rfl,fun j h=>absurd h (Nat.not_lt_zero _),rfl⟩
   case round =>
     obtain⟨k,rfl,hk,hmk,hok,rfl⟩:=hrel;have HMK:=Zh hmk;clear hmk
     by_cases hkN:k<N
     . have hkN':(k:Int)<(N:Int):=(by omega);have hks:k<s.size:=(by omega);have hbe:(s[k]'hks).toNat=bt s k:=(zko s k hks).symm;have HO:=Zh (okb_p wr (bt s k) (ziu s k))
       by_cases hb:okB (bt s k)=true
       . rw[hb] at HO;go_wp2_with (go_at_call 85;(with_reducible refine HO.out.mono ?_);rintro e w1 ⟨rfl,rfl⟩);go_roundg (N-(k+1))
         case measure=>have:=HMK.out;omega
         case rel=>exact⟨k+1,by go_num,by omega,rfl,fun j hj=>by rcases Nat.lt_succ_iff_lt_or_eq.1 hj with h' | rfl;exact hok j h';exact hb,rfl⟩
       . have hbf:okB (bt s k)=false:=(by simpa using hb);rw[hbf] at HO;go_wp2_with (go_at_call 85;(with_reducible refine HO.out.mono ?_);rintro e w1 ⟨rfl,rfl⟩);go_ret;refine⟨?_,rfl⟩;rw[show nameOk s=false from by
           cases hq:nameOk s with
           | false=>rfl
           | true=>exact absurd ((hN.1 hq).2 k hks) hb]
         rfl
     . have hkl:k=N:=(by omega);subst hkl;go_wp2;go_ret;refine⟨?_,rfl⟩;rw[show nameOk s=true from hN.2 ⟨h0,fun i hi=>hok i (by omega)⟩];rfl
 . have hN:nameOk s=false:=by
     cases hq:nameOk s with
     | false=>rfl
     | true=>exact absurd ((zdk s).1 hq).1 h0
   rw[hN];clear hN;obtain⟨N,hNs⟩:∃ N,s.size=N:=⟨_,rfl⟩;rw[hNs] at h0 hs
   by_cases h1:N<1
   . have h1':(N:Int)<1:=(by omega);go_enter Tryz.func60,Tryz.ntmps60;go_wp2;go_ret;exact⟨rfl,rfl⟩
   . have h1':¬ (N:Int)<1:=(by omega);have h2':(16:Int)<(N:Int):=(by omega);go_enter Tryz.func60,Tryz.ntmps60;go_wp2;go_ret;exact⟨rfl,rfl⟩
def hasName (l:List Ru) (s:ByteArray):Bool:=l.any fun y=>decide (y.name=s)
theorem zge (l:List Ru) (s:ByteArray) (k:Nat) (x:Ru) (h:l[k]?=some x) (e:x.name=s):hasName l s=true:=List.any_eq_true.2 ⟨x,List.mem_of_getElem? h,by simp[e]⟩
theorem zie (l:List Ru) (s:ByteArray) (h:∀ (k:Nat) (x:Ru),l[k]?=some x->x.name≠s):hasName l s=false:=by
 rw[Bool.eq_false_iff];intro hq;obtain⟨x,hx,e⟩:=List.any_eq_true.1 hq;obtain⟨k,hk⟩:=List.getElem?_of_mem hx;exact h k x hk (by simpa using e)
set_option maxHeartbeats 1000000 in
theorem zk9 (w:World) (A:Option Addr) (c:Nat) (l:List Ru) (s:ByteArray) (hl:l.length<=1000) (h:RdRu w A l):
   Calls Tryz.prog 37 #[.slice A l.length c,.string s] w fun e w'=>e = .returned (.bool (hasName l s))∧Below w.heap.size w w':=by
 obtain⟨N,hN⟩:∃ N,l.length=N:=⟨_,rfl⟩;have HR:=Zh h;have HNO:=Zh (zie l s);rw[hN] at hl ⊢;clear h;go_enter Tryz.func37,Tryz.ntmps37;go_wp2;go_loopg [9] N (fun mm i wr=>∃ k:Nat,i = .int .i64 (k:Int)∧k<=N∧mm=N-k∧(∀ j x,j<k->l[j]?=some x->x.name≠s)∧Below w.heap.size w wr)
 case atStart=>exact⟨0,rfl,Nat.zero_le _,rfl,fun j x h=>absurd h (Nat.not_lt_zero _),Below.refl _ _⟩
 case round =>
   obtain⟨k,rfl,hk,hmk,hno,hbw⟩:=hrel;have HMK:=Zh hmk;have HBW:=Zh hbw;have HK:=Zh hno;clear hmk hno hbw
   by_cases hkN:k<N
   . have hkN':(k:Int)<(N:Int):=(by omega);obtain⟨x,hx⟩:∃ x,l[k]?=some x:=⟨_,List.getElem?_eq_getElem (by omega)⟩;obtain⟨g,off,rfl,hg,c0,c1,c2⟩:=(HR.out.stays HBW.out) k x hx;have HX:=Zh hx;clear hx;obtain⟨xn,xp,xl⟩:=x;simp only at c0 c1 c2
     by_cases he:xn=s
     . have hb:(xn.toList==s.toList)=true:=(by rw[zfy,he];simp);have HE:=Zh he;clear he;go_wp2;go_ret;exact⟨by rw[zge l s k _ HX.out HE.out];rfl,HBW.out.alloc HBW.out.size _⟩
     . have hb:(xn.toList==s.toList)=false:=(by rw[zfy];simp[he]);have HE:=Zh he;clear he;go_wp2;go_roundg (N-(k+1))
       case measure=>have:=HMK.out;omega
       case rel=>exact⟨k+1,by go_num,by omega,rfl,fun j y hj hy=>(by rcases Nat.lt_succ_iff_lt_or_eq.1 hj with h' | rfl;exact HK.out j y h' hy;rw[HX.out] at hy;cases hy;exact HE.out),HBW.out.alloc HBW.out.size _⟩
   . have hkl:k=N:=(by omega);subst hkl;go_wp2;go_ret;exact⟨by rw[HNO.out fun j y hy=>HK.out j y (by have:=(List.getElem?_eq_some_iff.1 hy).1;omega) hy];rfl,HBW.out⟩
def RetRule (w:World) (s:ByteArray) (e:Ending) (w':World):Prop:=
 (∃ r,e = .returned (.tuple #[ruV r,.bool (ruleT s).isSome])∧∀ x,ruleT s=some x->r=x)∧Below w.heap.size w w'
theorem zjn (s:ByteArray) (h:lastI s 32 s.size<firstI s 32 s.size+2):ruleT s=none:=by unfold ruleT;rw[if_pos h]
structure Cutl (s:ByteArray) (F L:Nat) (nm pt kd:ByteArray):Prop where
 first:firstI s 32 s.size=(F:Int)
 last:lastI s 32 s.size=(L:Int)
 le:F+2<=L
 lt:L<s.size
 name:s.extract 0 F=nm
 pat:s.extract (F+1) L=pt
 kind:s.extract (L+1) s.size=kd
theorem cutl (s:ByteArray) (h:¬ lastI s 32 s.size<firstI s 32 s.size+2):∃ F L nm pt kd,Cutl s F L nm pt kd:=by
 obtain⟨h1,h2,h3,h4⟩:=zdr s 32 s.size;exact⟨(firstI s 32 s.size).toNat,(lastI s 32 s.size).toNat,_,_,_,by omega,by omega,by omega,by omega,rfl,rfl,rfl⟩
theorem Cutl.rule {s:ByteArray} {F L:Nat} {nm pt kd:ByteArray} (h:Cutl s F L nm pt kd):ruleT s=if nameOk nm=true∧(kd=luhnT∨kd=plainT) then some ⟨nm,pt,decide (kd=luhnT)⟩ else none:=by
 obtain⟨h1,h2,h3,h4,h5,h6,h7⟩:=h;unfold ruleT nameOf patOf kindOf;rw[if_neg (by omega),h1,h2,Int.toNat_natCast,Int.toNat_natCast,h5,h6,h7]
theorem Cutl.small {s:ByteArray} {F L:Nat} {nm pt kd:ByteArray} (h:Cutl s F L nm pt kd):nm.size<=s.size∧pt.size<=s.size∧kd.size<=s.size:=by
 obtain⟨h1,h2,h3,h4,h5,h6,h7⟩:=h;rw[←h5,←h6,←h7];simp;omega
set_option maxRecDepth 20000 in
set_option maxHeartbeats 2000000 in
theorem read_p (w:World) (s:ByteArray) (hs:s.size<=100000):Calls Tryz.prog 36 #[.string s] w (RetRule w s):=by
 have HF:=Zh (fun W=>zbt s 32 W);have HL:=Zh (fun W=>zb5 s 32 (by omega) W);simp only[show ((32:Int).toNat.toUInt8)=32 from rfl,zfc,show (32:UInt8).toNat=32 from rfl] at HF;simp only[show Lib.lastIndexByte s 32=lastI s 32 s.size from zdp s 32 s.size] at HL;unfold RetRule
 by_cases hfew:lastI s 32 s.size<firstI s 32 s.size+2
 . rw[zjn s hfew];obtain⟨h1,h2,h3,h4⟩:=zdr s 32 s.size;obtain⟨F,hF⟩:∃ F,firstI s 32 s.size=F:=⟨_,rfl⟩;obtain⟨L,hL⟩:∃ L,lastI s 32 s.size=L:=⟨_,rfl⟩;obtain⟨N,hN⟩:∃ N,s.size=N:=⟨_,rfl⟩;rw[hF,hL] at h1 h4 hfew;rw[hF] at h2;simp only[hF] at HF;simp only[hL] at HL;rw[hL] at h3;rw[hN] at h3 hs;clear hF hL;have i1:IntKind.i64.wrap (L-F)=L-F:=IntWalk.i64_in _ (by omega);have i2:L-F<2:=(by omega);clear h1 h2 h3 h4 hfew;go_enter Tryz.func36,Tryz.ntmps36;go_wp2_with (first
     | (go_at_call 58;(with_reducible refine (HF.out _).mono ?_);rintro e w1 ⟨rfl,rfl⟩)
     | (go_at_call 59;(with_reducible refine (HL.out _).mono ?_);rintro e w2 ⟨rfl,rfl⟩))
   exact bodyPost_ret (zb6 Tryz.results36 rfl rfl (RB.new w ⟨⟨#[]⟩,⟨#[]⟩,false⟩)) rfl ⟨⟨⟨⟨#[]⟩,⟨#[]⟩,false⟩,rfl,fun x h=>by cases h⟩,(Below.refl _ _).alloc (Nat.le_refl _) _⟩
 . obtain⟨F,L,nm,pt,kd,hc⟩:=cutl s hfew;clear hfew;rw[hc.rule];obtain⟨hz1,hz2,hz3⟩:=hc.small;have HN:=Zh (fun W=>zlo W nm (by omega));have HC1:=Zh (fun W=>zdi W nm (by omega));have HC2:=Zh (fun W=>zdi W pt (by omega));obtain⟨h1,h2,h3,h4,h5,h6,h7⟩:=hc;simp only[h1] at HF;simp only[h2] at HL;obtain⟨N,hN⟩:∃ N,s.size=N:=⟨_,rfl⟩;rw[hN] at h4 h7 hs;clear h1 h2 hz1 hz2 hz3;have i1:IntKind.i64.wrap ((L:Int)-(F:Int))=(L:Int)-(F:Int):=IntWalk.i64_in _ (by omega);have i2:¬ (L:Int)-(F:Int)<2:=(by omega);have i3:IntKind.i64.wrap ((F:Int)+1)=(F:Int)+1:=IntWalk.i64_in _ (by omega);have i4:IntKind.i64.wrap ((L:Int)+1)=(L:Int)+1:=IntWalk.i64_in _ (by omega);have k1:(F:Int)<=(N:Int):=(by omega);have k2:(F:Int)+1<=(L:Int):=(by omega);have k3:(L:Int)<=(N:Int):=(by omega);have k4:(L:Int)+1<=(N:Int):=(by omega);have q1:(0:Int)<=(F:Int)+1:=(by omega);have q2:(0:Int)<=(L:Int)+1:=(by omega);have t1:((F:Int)+1).toNat=F+1:=(by omega);have t2:((L:Int)+1).toNat=L+1:=(by omega);clear h3 h4 hs;cases hn:nameOk nm with
   | false =>
     simp only[hn] at HN;rw[if_neg (by simp)];go_enter Tryz.func36,Tryz.ntmps36;go_wp2_with (first
       | (go_at_call 58;(with_reducible refine (HF.out _).mono ?_);rintro e w1 ⟨rfl,rfl⟩)
       | (go_at_call 59;(with_reducible refine (HL.out _).mono ?_);rintro e w2 ⟨rfl,rfl⟩))
     go_quiet (fail);obtain⟨W1,hW1⟩:∃ W1,(w.alloc (.cells #[.string ⟨#[]⟩,.string ⟨#[]⟩,.bool false] 58)).drewN nq=W1:=⟨_,rfl⟩;have hbx:RB W1 w.heap.size ⟨⟨#[]⟩,⟨#[]⟩,false⟩:=(by rw[←hW1];exact (RB.new w ⟨⟨#[]⟩,⟨#[]⟩,false⟩).drewN nq);have HBW:Hid (Below w.heap.size w W1):=Zh (by rw[←hW1];exact zbc ((Below.refl _ _).alloc (Nat.le_refl _) _) nq);rw[hW1];clear hW1;obtain⟨x0,x1,x2⟩:=hbx.cell;have y0:=hbx.frozen 0;have y1:=hbx.frozen 1;have y2:=hbx.frozen 2;have HBX:=Zh hbx;clear hbx;go_wp2_with (first
       | (go_at_call 60;(with_reducible refine (HN.out _).mono ?_);rintro e w1 ⟨rfl,rfl⟩))
     exact bodyPost_ret (zb6 Tryz.results36 rfl rfl (HBX.out.put ..)) rfl ⟨⟨⟨⟨#[]⟩,⟨#[]⟩,false⟩,rfl,fun x h=>by cases h⟩,((HBW.out.setCell (Nat.le_refl _) _).setCell (Nat.le_refl _) _).setCell (Nat.le_refl _) _⟩
   | true =>
     simp only[hn] at HN
     by_cases hp:kd=plainT
     . have hl:¬ kd=luhnT:=(by rw[hp];decide);rw[if_pos ⟨rfl,.inr hp⟩,decide_eq_false hl];have e1:(kd.toList==[112,108,97,105,110])=true:=(zbd kd #[112,108,97,105,110]).trans (decide_eq_true hp);have e2:(kd.toList==[108,117,104,110])=false:=(zbd kd #[108,117,104,110]).trans (decide_eq_false hl);clear hp hl;go_enter Tryz.func36,Tryz.ntmps36;go_wp2_with (first
         | (go_at_call 58;(with_reducible refine (HF.out _).mono ?_);rintro e w1 ⟨rfl,rfl⟩)
         | (go_at_call 59;(with_reducible refine (HL.out _).mono ?_);rintro e w2 ⟨rfl,rfl⟩))
       go_quiet (fail);obtain⟨W1,hW1⟩:∃ W1,(w.alloc (.cells #[.string ⟨#[]⟩,.string ⟨#[]⟩,.bool false] 58)).drewN nq=W1:=⟨_,rfl⟩;have hbx:RB W1 w.heap.size ⟨⟨#[]⟩,⟨#[]⟩,false⟩:=(by rw[←hW1];exact (RB.new w ⟨⟨#[]⟩,⟨#[]⟩,false⟩).drewN nq);have HBW:Hid (Below w.heap.size w W1):=Zh (by rw[←hW1];exact zbc ((Below.refl _ _).alloc (Nat.le_refl _) _) nq);rw[hW1];clear hW1;obtain⟨x0,x1,x2⟩:=hbx.cell;have y0:=hbx.frozen 0;have y1:=hbx.frozen 1;have y2:=hbx.frozen 2;have HBX:=Zh hbx;clear hbx;go_wp2_with (first
         | (go_at_call 60;(with_reducible refine (HN.out _).mono ?_);rintro e w1 ⟨rfl,rfl⟩)
         | (go_at_call 61;first
           | ((with_reducible refine (HC1.out _).mono ?_);rintro e w2 ⟨rfl,hb2⟩;have HB2:=Zh hb2;clear hb2)
           | ((with_reducible refine (HC2.out _).mono ?_);rintro e w3 ⟨rfl,hb3⟩;have HB3:=Zh hb3;have hbx3:=(HBX.out.stays HB2.out).stays HB3.out;obtain⟨z0,z1,z2⟩:=hbx3.cell;have v0:=hbx3.frozen 0;have v1:=hbx3.frozen 1;have v2:=hbx3.frozen 2;have HX3:=Zh hbx3;have HBW3:Hid (Below w.heap.size w w3):=Zh (gro (gro HBW.out HB2.out) HB3.out);clear hb3 hbx3)))
       exact bodyPost_ret (zb6 Tryz.results36 rfl rfl (HX3.out.put ..)) rfl ⟨⟨_,rfl,fun x h=>by cases h;rfl⟩,((HBW3.out.setCell (Nat.le_refl _) _).setCell (Nat.le_refl _) _).setCell (Nat.le_refl _) _⟩
     by_cases hl:kd=luhnT
     . rw[if_pos ⟨rfl,.inl hl⟩,decide_eq_true hl];have e1:(kd.toList==[112,108,97,105,110])=false:=(zbd kd #[112,108,97,105,110]).trans (decide_eq_false hp);have e2:(kd.toList==[108,117,104,110])=true:=(zbd kd #[108,117,104,110]).trans (decide_eq_true hl);clear hp hl;go_enter Tryz.func36,Tryz.ntmps36;go_wp2_with (first
         | (go_at_call 58;(with_reducible refine (HF.out _).mono ?_);rintro e w1 ⟨rfl,rfl⟩)
         | (go_at_call 59;(with_reducible refine (HL.out _).mono ?_);rintro e w2 ⟨rfl,rfl⟩))
       go_quiet (fail);obtain⟨W1,hW1⟩:∃ W1,(w.alloc (.cells #[.string ⟨#[]⟩,.string ⟨#[]⟩,.bool false] 58)).drewN nq=W1:=⟨_,rfl⟩;have hbx:RB W1 w.heap.size ⟨⟨#[]⟩,⟨#[]⟩,false⟩:=(by rw[←hW1];exact (RB.new w ⟨⟨#[]⟩,⟨#[]⟩,false⟩).drewN nq);have HBW:Hid (Below w.heap.size w W1):=Zh (by rw[←hW1];exact zbc ((Below.refl _ _).alloc (Nat.le_refl _) _) nq);rw[hW1];clear hW1;obtain⟨x0,x1,x2⟩:=hbx.cell;have y0:=hbx.frozen 0;have y1:=hbx.frozen 1;have y2:=hbx.frozen 2;have HBX:=Zh hbx;clear hbx;go_wp2_with (first
         | (go_at_call 60;(with_reducible refine (HN.out _).mono ?_);rintro e w1 ⟨rfl,rfl⟩)
         | (go_at_call 61;first
           | ((with_reducible refine (HC1.out _).mono ?_);rintro e w2 ⟨rfl,hb2⟩;have HB2:=Zh hb2;clear hb2)
           | ((with_reducible refine (HC2.out _).mono ?_);rintro e w3 ⟨rfl,hb3⟩;have HB3:=Zh hb3;have hbx3:=(HBX.out.stays HB2.out).stays HB3.out;obtain⟨z0,z1,z2⟩:=hbx3.cell;have v0:=hbx3.frozen 0;have v1:=hbx3.frozen 1;have v2:=hbx3.frozen 2;have HX3:=Zh hbx3;have HBW3:Hid (Below w.heap.size w w3):=Zh (gro (gro HBW.out HB2.out) HB3.out);clear hb3 hbx3)))
       exact bodyPost_ret (zb6 Tryz.results36 rfl rfl (HX3.out.put ..)) rfl ⟨⟨_,rfl,fun x h=>by cases h;rfl⟩,((HBW3.out.setCell (Nat.le_refl _) _).setCell (Nat.le_refl _) _).setCell (Nat.le_refl _) _⟩
     . rw[if_neg fun h=>h.2.elim hl hp];have e1:(kd.toList==[112,108,97,105,110])=false:=(zbd kd #[112,108,97,105,110]).trans (decide_eq_false hp);have e2:(kd.toList==[108,117,104,110])=false:=(zbd kd #[108,117,104,110]).trans (decide_eq_false hl);clear hp hl;go_enter Tryz.func36,Tryz.ntmps36;go_wp2_with (first
         | (go_at_call 58;(with_reducible refine (HF.out _).mono ?_);rintro e w1 ⟨rfl,rfl⟩)
         | (go_at_call 59;(with_reducible refine (HL.out _).mono ?_);rintro e w2 ⟨rfl,rfl⟩))
       go_quiet (fail);obtain⟨W1,hW1⟩:∃ W1,(w.alloc (.cells #[.string ⟨#[]⟩,.string ⟨#[]⟩,.bool false] 58)).drewN nq=W1:=⟨_,rfl⟩;have hbx:RB W1 w.heap.size ⟨⟨#[]⟩,⟨#[]⟩,false⟩:=(by rw[←hW1];exact (RB.new w ⟨⟨#[]⟩,⟨#[]⟩,false⟩).drewN nq);have HBW:Hid (Below w.heap.size w W1):=Zh (by rw[←hW1];exact zbc ((Below.refl _ _).alloc (Nat.le_refl _) _) nq);rw[hW1];clear hW1;obtain⟨x0,x1,x2⟩:=hbx.cell;have y0:=hbx.frozen 0;have y1:=hbx.frozen 1;have y2:=hbx.frozen 2;have HBX:=Zh hbx;clear hbx;go_wp2_with (first
         | (go_at_call 60;(with_reducible refine (HN.out _).mono ?_);rintro e w1 ⟨rfl,rfl⟩)
         | (go_at_call 61;first
           | ((with_reducible refine (HC1.out _).mono ?_);rintro e w2 ⟨rfl,hb2⟩;have HB2:=Zh hb2;clear hb2)
           | ((with_reducible refine (HC2.out _).mono ?_);rintro e w3 ⟨rfl,hb3⟩;have HB3:=Zh hb3;have hbx3:=(HBX.out.stays HB2.out).stays HB3.out;obtain⟨z0,z1,z2⟩:=hbx3.cell;have v0:=hbx3.frozen 0;have v1:=hbx3.frozen 1;have v2:=hbx3.frozen 2;have HX3:=Zh hbx3;have HBW3:Hid (Below w.heap.size w w3):=Zh (gro (gro HBW.out HB2.out) HB3.out);clear hb3 hbx3)))
       exact bodyPost_ret (zb6 Tryz.results36 rfl rfl (HBX.out.put ..)) rfl ⟨⟨⟨⟨#[]⟩,⟨#[]⟩,false⟩,rfl,fun x h=>by cases h⟩,((HBW.out.setCell (Nat.le_refl _) _).setCell (Nat.le_refl _) _).setCell (Nat.le_refl _) _⟩
end Go.Proofs.YtgbdanddbgomhaaGreatDoor
