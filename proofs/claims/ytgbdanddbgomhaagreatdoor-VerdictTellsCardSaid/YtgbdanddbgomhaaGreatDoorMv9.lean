import Derived.Test.YtgbdanddbgomhaaGreatDoorMv6
import Derived.BigRegion
set_option linter.unusedVariables false
set_option linter.unusedSimpArgs false
namespace Go.Proofs.YtgbdanddbgomhaaGreatDoor
open Go Go.RowKit
def hasName (l:List Ru) (s:ByteArray):Bool:=l.any fun y=>decide (y.name=s)
theorem zf0 (l:List Ru) (s:ByteArray) (k:Nat) (x:Ru) (h:l[k]?=some x) (e:x.name=s):hasName l s=true:=List.any_eq_true.2 ⟨x,List.mem_of_getElem? h,by simp[e]⟩
theorem zfz (l:List Ru) (s:ByteArray) (h:∀ (k:Nat) (x:Ru),l[k]?=some x->x.name≠s):hasName l s=false:=by
 rw[Bool.eq_false_iff];intro hq;obtain⟨x,hx,e⟩:=List.any_eq_true.1 hq;obtain⟨k,hk⟩:=List.getElem?_of_mem hx;exact h k x hk (by simpa using e)
set_option maxHeartbeats 1000000 in
theorem znl (w:World) (A:Option Addr) (c:Nat) (l:List Ru) (s:ByteArray) (hl:l.length<=1000) (h:RdRu w A l):
   Calls Tryz.prog 37 #[.slice A l.length c,.string s] w fun e w'=>e = .returned (.bool (hasName l s))∧Below w.heap.size w w':=by
 obtain⟨N,hN⟩:∃ N,l.length=N:=⟨_,rfl⟩;have HR:=Zh h;have HNO:=Zh (zfz l s);rw[hN] at hl ⊢;clear h;go_enter Tryz.func37,Tryz.ntmps37;go_wp2;go_loopg [9] N (fun mm i wr=>∃ k:Nat,i = .int .i64 (k:Int)∧k<=N∧mm=N-k∧(∀ j x,j<k->l[j]?=some x->x.name≠s)∧Below w.heap.size w wr)
 case atStart=>exact⟨0,rfl,Nat.zero_le _,rfl,fun j x h=>absurd h (Nat.not_lt_zero _),Below.refl _ _⟩
 case round =>
   obtain⟨k,rfl,hk,hmk,hno,hbw⟩:=hrel;have HMK:=Zh hmk;have HBW:=Zh hbw;have HK:=Zh hno;clear hmk hno hbw
   by_cases hkN:k<N
   . have hkN':(k:Int)<(N:Int):=(by omega);obtain⟨x,hx⟩:∃ x,l[k]?=some x:=⟨_,List.getElem?_eq_getElem (by omega)⟩;obtain⟨g,off,rfl,hg,c0,c1,c2⟩:=(HR.out.stays HBW.out) k x hx;have HX:=Zh hx;clear hx;obtain⟨xn,xp,xl⟩:=x;simp only at c0 c1 c2
     by_cases he:xn=s
     . have hb:(xn.toList==s.toList)=true:=(by rw[zej,he];simp);have HE:=Zh he;clear he;go_wp2;go_ret;exact⟨by rw[zf0 l s k _ HX.out HE.out];rfl,HBW.out.alloc HBW.out.size _⟩
     . have hb:(xn.toList==s.toList)=false:=(by rw[zej];simp[he]);have HE:=Zh he;clear he;go_wp2;go_roundg (N-(k+1))
       case measure=>have:=HMK.out;omega
       case rel=>exact⟨k+1,by go_num,by omega,rfl,fun j y hj hy=>(by rcases Nat.lt_succ_iff_lt_or_eq.1 hj with h' | rfl;exact HK.out j y h' hy;rw[HX.out] at hy;cases hy;exact HE.out),HBW.out.alloc HBW.out.size _⟩
   . have hkl:k=N:=(by omega);subst hkl;go_wp2;go_ret;exact⟨by rw[HNO.out fun j y hy=>HK.out j y (by have:=(List.getElem?_eq_some_iff.1 hy).1;omega) hy];rfl,HBW.out⟩
def RetRule (w:World) (s:ByteArray) (e:Ending) (w':World):Prop:=
 (∃ r,e = .returned (.tuple #[ruV r,.bool (ruleT s).isSome])∧∀ x,ruleT s=some x->r=x)∧Below w.heap.size w w'
theorem zhj (s:ByteArray) (h:lastI s 32 s.size<firstI s 32 s.size+2):ruleT s=none:=by unfold ruleT;rw[if_pos h]
structure Cutl (s:ByteArray) (F L:Nat) (nm pt kd:ByteArray):Prop where
 first:firstI s 32 s.size=(F:Int)
 last:lastI s 32 s.size=(L:Int)
 le:F+2<=L
 lt:L<s.size
 name:s.extract 0 F=nm
 pat:s.extract (F+1) L=pt
 kind:s.extract (L+1) s.size=kd
theorem cutl (s:ByteArray) (h:¬ lastI s 32 s.size<firstI s 32 s.size+2):∃ F L nm pt kd,Cutl s F L nm pt kd:=by
 obtain⟨h1,h2,h3,h4⟩:=zdu s 32 s.size;exact⟨(firstI s 32 s.size).toNat,(lastI s 32 s.size).toNat,_,_,_,by omega,by omega,by omega,by omega,rfl,rfl,rfl⟩
theorem Cutl.rule {s:ByteArray} {F L:Nat} {nm pt kd:ByteArray} (h:Cutl s F L nm pt kd):ruleT s=if nameOk nm=true∧(kd=luhnT∨kd=plainT) then some ⟨nm,pt,decide (kd=luhnT)⟩ else none:=by
 obtain⟨h1,h2,h3,h4,h5,h6,h7⟩:=h;unfold ruleT nameOf patOf kindOf;rw[if_neg (by omega),h1,h2,Int.toNat_natCast,Int.toNat_natCast,h5,h6,h7]
theorem Cutl.small {s:ByteArray} {F L:Nat} {nm pt kd:ByteArray} (h:Cutl s F L nm pt kd):nm.size<=s.size∧pt.size<=s.size∧kd.size<=s.size:=by
 obtain⟨h1,h2,h3,h4,h5,h6,h7⟩:=h;rw[←h5,←h6,←h7];simp;omega
set_option maxRecDepth 20000 in
set_option maxHeartbeats 2000000 in
theorem read_p (w:World) (s:ByteArray) (hs:s.size<=100000):Calls Tryz.prog 36 #[.string s] w (RetRule w s):=by
 have HF:=Zh (fun W=>zcp s 32 W);have HL:=Zh (fun W=>zbt s 32 (by omega) W);simp only[show ((32:Int).toNat.toUInt8)=32 from rfl,zhp,show (32:UInt8).toNat=32 from rfl] at HF;simp only[show Lib.lastIndexByte s 32=lastI s 32 s.size from zfx s 32 s.size] at HL;unfold RetRule
 by_cases hfew:lastI s 32 s.size<firstI s 32 s.size+2
 . rw[zhj s hfew];obtain⟨h1,h2,h3,h4⟩:=zdu s 32 s.size;obtain⟨F,hF⟩:∃ F,firstI s 32 s.size=F:=⟨_,rfl⟩;obtain⟨L,hL⟩:∃ L,lastI s 32 s.size=L:=⟨_,rfl⟩;obtain⟨N,hN⟩:∃ N,s.size=N:=⟨_,rfl⟩;rw[hF,hL] at h1 h4 hfew;rw[hF] at h2;simp only[hF] at HF;simp only[hL] at HL;rw[hL] at h3;rw[hN] at h3 hs;clear hF hL;have i1:IntKind.i64.wrap (L-F)=L-F:=IntWalk.i64_in _ (by omega);have i2:L-F<2:=(by omega);clear h1 h2 h3 h4 hfew;go_enter Tryz.func36,Tryz.ntmps36;go_wp2_with (first
     | (go_at_call 58;(with_reducible refine (HF.out _).mono ?_);rintro e w1 ⟨rfl,rfl⟩)
     | (go_at_call 59;(with_reducible refine (HL.out _).mono ?_);rintro e w2 ⟨rfl,rfl⟩))
   exact bodyPost_ret (zag Tryz.results36 rfl rfl (RB.new w ⟨⟨#[]⟩,⟨#[]⟩,false⟩)) rfl ⟨⟨⟨⟨#[]⟩,⟨#[]⟩,false⟩,rfl,fun x h=>by cases h⟩,(Below.refl _ _).alloc (Nat.le_refl _) _⟩
 . obtain⟨F,L,nm,pt,kd,hc⟩:=cutl s hfew;clear hfew;rw[hc.rule];obtain⟨hz1,hz2,hz3⟩:=hc.small;have HN:=Zh (fun W=>zpn W nm (by omega));have HC1:=Zh (fun W=>zfn W nm (by omega));have HC2:=Zh (fun W=>zfn W pt (by omega));obtain⟨h1,h2,h3,h4,h5,h6,h7⟩:=hc;simp only[h1] at HF;simp only[h2] at HL;obtain⟨N,hN⟩:∃ N,s.size=N:=⟨_,rfl⟩;rw[hN] at h4 h7 hs;clear h1 h2 hz1 hz2 hz3;have i1:IntKind.i64.wrap ((L:Int)-(F:Int))=(L:Int)-(F:Int):=IntWalk.i64_in _ (by omega);have i2:¬ (L:Int)-(F:Int)<2:=(by omega);have i3:IntKind.i64.wrap ((F:Int)+1)=(F:Int)+1:=IntWalk.i64_in _ (by omega);have i4:IntKind.i64.wrap ((L:Int)+1)=(L:Int)+1:=IntWalk.i64_in _ (by omega);have k1:(F:Int)<=(N:Int):=(by omega);have k2:(F:Int)+1<=(L:Int):=(by omega);have k3:(L:Int)<=(N:Int):=(by omega);have k4:(L:Int)+1<=(N:Int):=(by omega);have q1:(0:Int)<=(F:Int)+1:=(by omega);have q2:(0:Int)<=(L:Int)+1:=(by omega);have t1:((F:Int)+1).toNat=F+1:=(by omega);have t2:((L:Int)+1).toNat=L+1:=(by omega);clear h3 h4 hs;cases hn:nameOk nm with
   | false =>
     simp only[hn] at HN;rw[if_neg (by simp)];go_enter Tryz.func36,Tryz.ntmps36;go_wp2_with (first
       | (go_at_call 58;(with_reducible refine (HF.out _).mono ?_);rintro e w1 ⟨rfl,rfl⟩)
       | (go_at_call 59;(with_reducible refine (HL.out _).mono ?_);rintro e w2 ⟨rfl,rfl⟩))
     go_quiet (fail);obtain⟨W1,hW1⟩:∃ W1,(w.alloc (.cells #[.string ⟨#[]⟩,.string ⟨#[]⟩,.bool false] 58)).drewN nq=W1:=⟨_,rfl⟩;have hbx:RB W1 w.heap.size ⟨⟨#[]⟩,⟨#[]⟩,false⟩:=(by rw[←hW1];exact (RB.new w ⟨⟨#[]⟩,⟨#[]⟩,false⟩).drewN nq);have HBW:Hid (Below w.heap.size w W1):=Zh (by rw[←hW1];exact zai ((Below.refl _ _).alloc (Nat.le_refl _) _) nq);rw[hW1];clear hW1;obtain⟨x0,x1,x2⟩:=hbx.cell;have y0:=hbx.frozen 0;have y1:=hbx.frozen 1;have y2:=hbx.frozen 2;have HBX:=Zh hbx;clear hbx;go_wp2_with (first
       | (go_at_call 60;(with_reducible refine (HN.out _).mono ?_);rintro e w1 ⟨rfl,rfl⟩))
     exact bodyPost_ret (zag Tryz.results36 rfl rfl (HBX.out.put ..)) rfl ⟨⟨⟨⟨#[]⟩,⟨#[]⟩,false⟩,rfl,fun x h=>by cases h⟩,((HBW.out.setCell (Nat.le_refl _) _).setCell (Nat.le_refl _) _).setCell (Nat.le_refl _) _⟩
   | true =>
     simp only[hn] at HN
     by_cases hp:kd=plainT
     . have hl:¬ kd=luhnT:=(by rw[hp];decide);rw[if_pos ⟨rfl,.inr hp⟩,decide_eq_false hl];have e1:(kd.toList==[112,108,97,105,110])=true:=(zb0 kd #[112,108,97,105,110]).trans (decide_eq_true hp);have e2:(kd.toList==[108,117,104,110])=false:=(zb0 kd #[108,117,104,110]).trans (decide_eq_false hl);clear hp hl;go_enter Tryz.func36,Tryz.ntmps36;go_wp2_with (first
         | (go_at_call 58;(with_reducible refine (HF.out _).mono ?_);rintro e w1 ⟨rfl,rfl⟩)
         | (go_at_call 59;(with_reducible refine (HL.out _).mono ?_);rintro e w2 ⟨rfl,rfl⟩))
       go_quiet (fail);obtain⟨W1,hW1⟩:∃ W1,(w.alloc (.cells #[.string ⟨#[]⟩,.string ⟨#[]⟩,.bool false] 58)).drewN nq=W1:=⟨_,rfl⟩;have hbx:RB W1 w.heap.size ⟨⟨#[]⟩,⟨#[]⟩,false⟩:=(by rw[←hW1];exact (RB.new w ⟨⟨#[]⟩,⟨#[]⟩,false⟩).drewN nq);have HBW:Hid (Below w.heap.size w W1):=Zh (by rw[←hW1];exact zai ((Below.refl _ _).alloc (Nat.le_refl _) _) nq);rw[hW1];clear hW1;obtain⟨x0,x1,x2⟩:=hbx.cell;have y0:=hbx.frozen 0;have y1:=hbx.frozen 1;have y2:=hbx.frozen 2;have HBX:=Zh hbx;clear hbx;go_wp2_with (first
         | (go_at_call 60;(with_reducible refine (HN.out _).mono ?_);rintro e w1 ⟨rfl,rfl⟩)
         | (go_at_call 61;first
           | ((with_reducible refine (HC1.out _).mono ?_);rintro e w2 ⟨rfl,hb2⟩;have HB2:=Zh hb2;clear hb2)
           | ((with_reducible refine (HC2.out _).mono ?_);rintro e w3 ⟨rfl,hb3⟩;have HB3:=Zh hb3;have hbx3:=(HBX.out.stays HB2.out).stays HB3.out;obtain⟨z0,z1,z2⟩:=hbx3.cell;have v0:=hbx3.frozen 0;have v1:=hbx3.frozen 1;have v2:=hbx3.frozen 2;have HX3:=Zh hbx3;have HBW3:Hid (Below w.heap.size w w3):=Zh (gro (gro HBW.out HB2.out) HB3.out);clear hb3 hbx3)))
       exact bodyPost_ret (zag Tryz.results36 rfl rfl (HX3.out.put ..)) rfl ⟨⟨_,rfl,fun x h=>by cases h;rfl⟩,((HBW3.out.setCell (Nat.le_refl _) _).setCell (Nat.le_refl _) _).setCell (Nat.le_refl _) _⟩
     by_cases hl:kd=luhnT
     . rw[if_pos ⟨rfl,.inl hl⟩,decide_eq_true hl];have e1:(kd.toList==[112,108,97,105,110])=false:=(zb0 kd #[112,108,97,105,110]).trans (decide_eq_false hp);have e2:(kd.toList==[108,117,104,110])=true:=(zb0 kd #[108,117,104,110]).trans (decide_eq_true hl);clear hp hl;go_enter Tryz.func36,Tryz.ntmps36;go_wp2_with (first
         | (go_at_call 58;(with_reducible refine (HF.out _).mono ?_);rintro e w1 ⟨rfl,rfl⟩)
         | (go_at_call 59;(with_reducible refine (HL.out _).mono ?_);rintro e w2 ⟨rfl,rfl⟩))
       go_quiet (fail);obtain⟨W1,hW1⟩:∃ W1,(w.alloc (.cells #[.string ⟨#[]⟩,.string ⟨#[]⟩,.bool false] 58)).drewN nq=W1:=⟨_,rfl⟩;have hbx:RB W1 w.heap.size ⟨⟨#[]⟩,⟨#[]⟩,false⟩:=(by rw[←hW1];exact (RB.new w ⟨⟨#[]⟩,⟨#[]⟩,false⟩).drewN nq);have HBW:Hid (Below w.heap.size w W1):=Zh (by rw[←hW1];exact zai ((Below.refl _ _).alloc (Nat.le_refl _) _) nq);rw[hW1];clear hW1;obtain⟨x0,x1,x2⟩:=hbx.cell;have y0:=hbx.frozen 0;have y1:=hbx.frozen 1;have y2:=hbx.frozen 2;have HBX:=Zh hbx;clear hbx;go_wp2_with (first
         | (go_at_call 60;(with_reducible refine (HN.out _).mono ?_);rintro e w1 ⟨rfl,rfl⟩)
         | (go_at_call 61;first
           | ((with_reducible refine (HC1.out _).mono ?_);rintro e w2 ⟨rfl,hb2⟩;have HB2:=Zh hb2;clear hb2)
           | ((with_reducible refine (HC2.out _).mono ?_);rintro e w3 ⟨rfl,hb3⟩;have HB3:=Zh hb3;have hbx3:=(HBX.out.stays HB2.out).stays HB3.out;obtain⟨z0,z1,z2⟩:=hbx3.cell;have v0:=hbx3.frozen 0;have v1:=hbx3.frozen 1;have v2:=hbx3.frozen 2;have HX3:=Zh hbx3;have HBW3:Hid (Below w.heap.size w w3):=Zh (gro (gro HBW.out HB2.out) HB3.out);clear hb3 hbx3)))
       exact bodyPost_ret (zag Tryz.results36 rfl rfl (HX3.out.put ..)) rfl ⟨⟨_,rfl,fun x h=>by cases h;rfl⟩,((HBW3.out.setCell (Nat.le_refl _) _).setCell (Nat.le_refl _) _).setCell (Nat.le_refl _) _⟩
     . rw[if_neg fun h=>h.2.elim hl hp];have e1:(kd.toList==[112,108,97,105,110])=false:=(zb0 kd #[112,108,97,105,110]).trans (decide_eq_false hp);have e2:(kd.toList==[108,117,104,110])=false:=(zb0 kd #[108,117,104,110]).trans (decide_eq_false hl);clear hp hl;go_enter Tryz.func36,Tryz.ntmps36;go_wp2_with (first
         | (go_at_call 58;(with_reducible refine (HF.out _).mono ?_);rintro e w1 ⟨rfl,rfl⟩)
         | (go_at_call 59;(with_reducible refine (HL.out _).mono ?_);rintro e w2 ⟨rfl,rfl⟩))
       go_quiet (fail);obtain⟨W1,hW1⟩:∃ W1,(w.alloc (.cells #[.string ⟨#[]⟩,.string ⟨#[]⟩,.bool false] 58)).drewN nq=W1:=⟨_,rfl⟩;have hbx:RB W1 w.heap.size ⟨⟨#[]⟩,⟨#[]⟩,false⟩:=(by rw[←hW1];exact (RB.new w ⟨⟨#[]⟩,⟨#[]⟩,false⟩).drewN nq);have HBW:Hid (Below w.heap.size w W1):=Zh (by rw[←hW1];exact zai ((Below.refl _ _).alloc (Nat.le_refl _) _) nq);rw[hW1];clear hW1;obtain⟨x0,x1,x2⟩:=hbx.cell;have y0:=hbx.frozen 0;have y1:=hbx.frozen 1;have y2:=hbx.frozen 2;have HBX:=Zh hbx;clear hbx;go_wp2_with (first
         | (go_at_call 60;(with_reducible refine (HN.out _).mono ?_);rintro e w1 ⟨rfl,rfl⟩)
         | (go_at_call 61;first
           | ((with_reducible refine (HC1.out _).mono ?_);rintro e w2 ⟨rfl,hb2⟩;have HB2:=Zh hb2;clear hb2)
           | ((with_reducible refine (HC2.out _).mono ?_);rintro e w3 ⟨rfl,hb3⟩;have HB3:=Zh hb3;have hbx3:=(HBX.out.stays HB2.out).stays HB3.out;obtain⟨z0,z1,z2⟩:=hbx3.cell;have v0:=hbx3.frozen 0;have v1:=hbx3.frozen 1;have v2:=hbx3.frozen 2;have HX3:=Zh hbx3;have HBW3:Hid (Below w.heap.size w w3):=Zh (gro (gro HBW.out HB2.out) HB3.out);clear hb3 hbx3)))
       exact bodyPost_ret (zag Tryz.results36 rfl rfl (HBX.out.put ..)) rfl ⟨⟨⟨⟨#[]⟩,⟨#[]⟩,false⟩,rfl,fun x h=>by cases h⟩,((HBW.out.setCell (Nat.le_refl _) _).setCell (Nat.le_refl _) _).setCell (Nat.le_refl _) _⟩
set_option maxRecDepth 20000 in
set_option maxHeartbeats 2000000 in
theorem zry (w:World) (s:ByteArray) (hs:s.size<=100000):Calls Tryz.prog 45 #[.string s] w (RetRule w s):=by
 obtain⟨N,hN⟩:∃ N,s.size=N:=⟨_,rfl⟩;have h0:=RB.new w ⟨⟨#[]⟩,⟨#[]⟩,false⟩;have hb0:=(Below.refl w.heap.size w).alloc (Nat.le_refl _) (.cells #[.string ⟨#[]⟩,.string ⟨#[]⟩,.bool false] 58);have HBX0:=Zh h0;have HB0:=Zh hb0;obtain⟨x0,x1,x2⟩:=h0.cell;have y0:=h0.frozen 0;have y1:=h0.frozen 1;have y2:=h0.frozen 2;clear h0 hb0;go_enter Tryz.func45,Tryz.ntmps45;go_wp2;go_loopg [4,5,6] N (fun mm fi la i wr=>∃ k:Nat,i = .int .i64 (k:Int)∧k<=N∧mm=N-k∧fi = .int .i64 (firstI s 32 k)∧la = .int .i64 (lastI s 32 k)∧wr=w.alloc (.cells #[.string ⟨#[]⟩,.string ⟨#[]⟩,.bool false] 58))
 case atStart=>exact⟨0,rfl,Nat.zero_le _,rfl,rfl,rfl,rfl⟩
 case round =>
   obtain⟨k,rfl,hk,hmk,rfl,rfl,rfl⟩:=hrel;have HMK:=Zh hmk;clear hmk
   by_cases hkN:k<N
   . have hkN':(k:Int)<(N:Int):=(by omega);have hks:k<s.size:=(by omega);have hbe:(s[k]'hks).toNat=bt s k:=(zdw s k hks).symm;obtain⟨f',hf'⟩:∃ f',firstI s 32 (k+1)=f':=⟨_,rfl⟩;obtain⟨l',hl'⟩:∃ l',lastI s 32 (k+1)=l':=⟨_,rfl⟩;have HF':=Zh hf';have HL':=Zh hl';rw[firstI] at hf';rw[lastI] at hl';obtain⟨f,hf⟩:∃ f,firstI s 32 k=f:=⟨_,rfl⟩;obtain⟨l,hl⟩:∃ l,lastI s 32 k=l:=⟨_,rfl⟩;obtain⟨B,hB⟩:∃ B:Nat,bt s k=B:=⟨_,rfl⟩;rw[hf,hB] at hf';rw[hl,hB] at hl';rw[hB] at hbe;rw[hf,hl];clear hf hl hB;rcases zh4 (B:Int) 32 with ⟨e5,h5⟩ | ⟨e5,h5⟩
     . have e6:B=32:=(by omega);rw[if_pos e6] at hl'
       by_cases hneg:f<0
       . rw[if_pos ⟨hneg,e6⟩] at hf';have HFF:=Zh hf';have HLL:=Zh hl';clear hf' hl' e6 h5;go_wp2;go_roundg (N-(k+1))
         case measure=>have:=HMK.out;omega
         case rel=>exact⟨k+1,by go_num,by omega,rfl,by rw[HF'.out,←HFF.out],by rw[HL'.out,←HLL.out],rfl⟩
       . rw[if_neg fun h=>hneg h.1] at hf';have HFF:=Zh hf';have HLL:=Zh hl';clear hf' hl' e6 h5;go_wp2;go_roundg (N-(k+1))
         case measure=>have:=HMK.out;omega
         case rel=>exact⟨k+1,by go_num,by omega,rfl,by rw[HF'.out,←HFF.out],by rw[HL'.out,←HLL.out],rfl⟩
     . have e6:B≠32:=(by omega);rw[if_neg e6] at hl';rw[if_neg fun h=>e6 h.2] at hf';have HFF:=Zh hf';have HLL:=Zh hl';clear hf' hl' e6 h5;go_wp2;go_roundg (N-(k+1))
       case measure=>have:=HMK.out;omega
       case rel=>exact⟨k+1,by go_num,by omega,rfl,by rw[HF'.out,←HFF.out],by rw[HL'.out,←HLL.out],rfl⟩
   . have hkl:k=N:=(by omega);rw[hkl];clear hk HMK hkl hkN
     by_cases hfew:lastI s 32 s.size<firstI s 32 s.size+2
     . have HR:=Zh (zhj s hfew);obtain⟨h1,h2,h3,h4⟩:=zdu s 32 s.size;rw[hN] at hfew h1 h2 h3 h4;obtain⟨F,hF⟩:∃ F,firstI s 32 N=F:=⟨_,rfl⟩;obtain⟨L,hL⟩:∃ L,lastI s 32 N=L:=⟨_,rfl⟩;rw[hF,hL] at h1 h4 hfew;rw[hF] at h2;rw[hL] at h3;rw[hF,hL];rw[hN] at hs;have i1:IntKind.i64.wrap (F+2)=F+2:=IntWalk.i64_in _ (by omega);clear hF hL h1 h2 h3 h4
       by_cases hneg:F<0
       . go_wp2;exact bodyPost_ret (zag Tryz.results45 rfl rfl HBX0.out) rfl ⟨⟨⟨⟨#[]⟩,⟨#[]⟩,false⟩,by rw[HR.out];rfl,fun x h=>by rw[HR.out] at h;cases h⟩,HB0.out⟩
       . go_wp2;exact bodyPost_ret (zag Tryz.results45 rfl rfl HBX0.out) rfl ⟨⟨⟨⟨#[]⟩,⟨#[]⟩,false⟩,by rw[HR.out];rfl,fun x h=>by rw[HR.out] at h;cases h⟩,HB0.out⟩
     . obtain⟨F,L,nm,pt,kd,hc⟩:=cutl s hfew;clear hfew;have HR:=Zh hc.rule;obtain⟨hz1,hz2,hz3⟩:=hc.small;have HN:=Zh (fun W=>zrm W nm (by omega));obtain⟨h1,h2,h3,h4,h5,h6,h7⟩:=hc;rw[hN] at h1 h2 h4 h7 hs;rw[h1,h2];clear h1 h2 hz1 hz2 hz3;have g1:¬ (F:Int)<0:=(by omega);have i2:IntKind.i64.wrap ((F:Int)+2)=(F:Int)+2:=IntWalk.i64_in _ (by omega);have i5:¬ (L:Int)<(F:Int)+2:=(by omega);have i3:IntKind.i64.wrap ((F:Int)+1)=(F:Int)+1:=IntWalk.i64_in _ (by omega);have i4:IntKind.i64.wrap ((L:Int)+1)=(L:Int)+1:=IntWalk.i64_in _ (by omega);have k1:(F:Int)<=(N:Int):=(by omega);have k2:(F:Int)+1<=(L:Int):=(by omega);have k3:(L:Int)<=(N:Int):=(by omega);have k4:(L:Int)+1<=(N:Int):=(by omega);have q1:(0:Int)<=(F:Int)+1:=(by omega);have q2:(0:Int)<=(L:Int)+1:=(by omega);have t1:((F:Int)+1).toNat=F+1:=(by omega);have t2:((L:Int)+1).toNat=L+1:=(by omega);clear h3 h4 hs;obtain⟨lb,hlb⟩:∃ lb,decide (kd=luhnT)=lb:=⟨_,rfl⟩;have e2:(kd.toList==[108,117,104,110])=lb:=(zb0 kd #[108,117,104,110]).trans hlb;have HLB:=Zh hlb;clear hlb;go_wp2;go_region;obtain⟨W1,hW1⟩:∃ W1,(w.alloc (.cells #[.string ⟨#[]⟩,.string ⟨#[]⟩,.bool false] 58))=W1:=⟨_,rfl⟩;rw[hW1] at HBX0 HB0 x0 x1 x2 y0 y1 y2 ⊢;have hz:W1.heap.size=w.heap.size+1:=(by rw[←hW1];simp);clear hW1;rw[←hz];obtain⟨W2,hW2⟩:∃ W2,(W1.alloc (.cells #[.string nm,.string pt,.bool lb] 58)).drew=W2:=⟨_,rfl⟩;have hbn:RB W2 W1.heap.size ⟨nm,pt,lb⟩:=(by rw[←hW2];exact (RB.new W1 ⟨nm,pt,lb⟩));have hbo:RB W2 w.heap.size ⟨⟨#[]⟩,⟨#[]⟩,false⟩:=(by rw[←hW2];exact (HBX0.out.stays ((Below.refl _ _).alloc (Nat.le_refl _) (.cells #[.string nm,.string pt,.bool lb] 58))).drewN 1);have HB2:Hid (Below w.heap.size w W2):=Zh (by rw[←hW2];exact (HB0.out.alloc HB0.out.size _).drew);rw[hW2];clear hW2 x0 x1 x2 y0 y1 y2;obtain⟨x0,x1,x2⟩:=hbn.cell;obtain⟨z0,z1,z2⟩:=hbo.cell;have y0:=hbo.frozen 0;have y1:=hbo.frozen 1;have y2:=hbo.frozen 2;have HBO:=Zh hbo;have hne:w.heap.size≠W1.heap.size:=(by omega);have hne':W1.heap.size≠w.heap.size:=(by omega);clear hbn hbo hz;cases hn:nameOk nm with
       | false =>
         simp only[hn] at HN;go_wp2_with (go_at_call 70;(with_reducible refine (HN.out _).mono ?_);rintro e w1 ⟨rfl,rfl⟩);go_region;have HNO:Hid (¬ (nameOk nm=true∧(kd=luhnT∨kd=plainT))):=Zh (by rw[hn];simp);have hX:=HBO.out.put nm pt lb;have hY:=((HB2.out.setCell (p:=⟨w.heap.size,0,none⟩) (Nat.le_refl _) (.string nm)).setCell (p:=⟨w.heap.size,1,none⟩) (Nat.le_refl _) (.string pt)).setCell (p:=⟨w.heap.size,2,none⟩) (Nat.le_refl _) (.bool lb);have HX:=Zh hX;have HY:=Zh hY;clear hX hY;go_wp2;exact bodyPost_ret (zag Tryz.results45 rfl rfl (HX.out.drewN 1)) rfl ⟨⟨_,by rw[HR.out,if_neg HNO.out];rfl,fun x h=>by rw[HR.out,if_neg HNO.out] at h;cases h⟩,zai HY.out 1⟩
       | true =>
         simp only[hn] at HN;cases lb with
         | true =>
           have HNO:Hid (nameOk nm=true∧(kd=luhnT∨kd=plainT)):=Zh ⟨hn,.inl (of_decide_eq_true HLB.out)⟩;go_wp2_with (go_at_call 70;(with_reducible refine (HN.out _).mono ?_);rintro e w1 ⟨rfl,rfl⟩);go_region;have hX:=HBO.out.put nm pt true;have hY:=((HB2.out.setCell (p:=⟨w.heap.size,0,none⟩) (Nat.le_refl _) (.string nm)).setCell (p:=⟨w.heap.size,1,none⟩) (Nat.le_refl _) (.string pt)).setCell (p:=⟨w.heap.size,2,none⟩) (Nat.le_refl _) (.bool true);have HX:=Zh hX;have HY:=Zh hY;clear hX hY;go_wp2;exact bodyPost_ret (zag Tryz.results45 rfl rfl (HX.out.drewN 1)) rfl ⟨⟨_,by rw[HR.out,if_pos HNO.out];rfl,fun x h=>by rw[HR.out,if_pos HNO.out,HLB.out] at h;cases h;rfl⟩,zai HY.out 1⟩
         | false =>
           by_cases hp:kd=plainT
           . have e1:(kd.toList==[112,108,97,105,110])=true:=(zb0 kd #[112,108,97,105,110]).trans (decide_eq_true hp);have HNO:Hid (nameOk nm=true∧(kd=luhnT∨kd=plainT)):=Zh ⟨hn,.inr hp⟩;clear hp;go_wp2_with (go_at_call 70;(with_reducible refine (HN.out _).mono ?_);rintro e w1 ⟨rfl,rfl⟩);go_region;have hX:=HBO.out.put nm pt false;have hY:=((HB2.out.setCell (p:=⟨w.heap.size,0,none⟩) (Nat.le_refl _) (.string nm)).setCell (p:=⟨w.heap.size,1,none⟩) (Nat.le_refl _) (.string pt)).setCell (p:=⟨w.heap.size,2,none⟩) (Nat.le_refl _) (.bool false);have HX:=Zh hX;have HY:=Zh hY;clear hX hY;go_wp2;exact bodyPost_ret (zag Tryz.results45 rfl rfl (HX.out.drewN 1)) rfl ⟨⟨_,by rw[HR.out,if_pos HNO.out];rfl,fun x h=>by rw[HR.out,if_pos HNO.out,HLB.out] at h;cases h;rfl⟩,zai HY.out 1⟩
           . have e1:(kd.toList==[112,108,97,105,110])=false:=(zb0 kd #[112,108,97,105,110]).trans (decide_eq_false hp);have HNO:Hid (¬ (nameOk nm=true∧(kd=luhnT∨kd=plainT))):=Zh fun h=>h.2.elim (of_decide_eq_false HLB.out) hp
             clear hp;go_wp2_with (go_at_call 70;(with_reducible refine (HN.out _).mono ?_);rintro e w1 ⟨rfl,rfl⟩);go_region;have hX:=HBO.out.put nm pt false;have hY:=((HB2.out.setCell (p:=⟨w.heap.size,0,none⟩) (Nat.le_refl _) (.string nm)).setCell (p:=⟨w.heap.size,1,none⟩) (Nat.le_refl _) (.string pt)).setCell (p:=⟨w.heap.size,2,none⟩) (Nat.le_refl _) (.bool false);have HX:=Zh hX;have HY:=Zh hY;clear hX hY;go_wp2;exact bodyPost_ret (zag Tryz.results45 rfl rfl (HX.out.drewN 1)) rfl ⟨⟨_,by rw[HR.out,if_neg HNO.out];rfl,fun x h=>by rw[HR.out,if_neg HNO.out] at h;cases h⟩,zai HY.out 1⟩
end Go.Proofs.YtgbdanddbgomhaaGreatDoor
