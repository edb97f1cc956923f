import Derived.Test.YtgbdanddbgomhaaDoorMw3
import Derived.Test.YtgbdanddbgomhaaDoorMw5
set_option linter.unusedVariables false
set_option linter.unusedSimpArgs false
namespace Go.Proofs.YtgbdanddbgomhaaDoor
open Go Go.RowKit
theorem zde (s:ByteArray) (st:St) (h:st.pos<=s.size):(st.escaped s).2.pos<=s.size∧st.pos<=(st.escaped s).2.pos:=by
 have:=zby s st h;unfold St.escaped;simp only;split
 . exact this
 . split
   . exact this
   . split
     . exact this
     . rw[zey];exact this
set_option maxHeartbeats 400000 in
theorem zlx (w:World) (g:Nat) (s:ByteArray) (st:St) (h:Rdr w g s st) (hs:s.size<=1000) (hpos:st.pos<=s.size):
   Calls Tryd.prog 136 #[.pointer (some ⟨g,0,none⟩)] w fun e w'=>e = .returned (.int .u8 (st.member s).1)∧Rdr w' g s (st.member s).2∧w.grownBy w' (some g):=by
 have hbd:=ze8 s st;have hps:=zby s st hpos;have HN:=Zh (zbb w g s st h hs);generalize hc:(st.next s).1=c at *;generalize h1:(st.next s).2=st1 at *;have HE:Hid (st.member s=if c=92 then (if c=93 then st1.fail ((st1.pos:Int)-1) 2 else st1).escaped s else (max c 0,if c=93 then st1.fail ((st1.pos:Int)-1) 2 else st1)):=by
   show St.member s st=_
   unfold St.member;simp only[hc,h1]
 clear hc h1
 by_cases e1:c=93
 . have hE:=HE.out;rw[if_neg (by omega),if_pos e1] at hE;rw[hE,e1];clear hE HE;have e1':(c==93)=true:=(by simp[e1]);have e2':(c==92)=false:=(by simp[e1]);have hc:(max c 0)=93:=(by omega);go_enter Tryd.func136,Tryd.ntmps136;go_wp2_with (first
     | (go_at_call 119;(with_reducible refine (HN.out).mono ?_);rintro e w1 ⟨rfl,hr,ho⟩;rw[e1];obtain⟨k0,k1,k2,k3,k4⟩:=hr.cell)
     | (go_at_call 121;(with_reducible refine (zct _ g s st1 _ _ hr).mono ?_);rintro e w3 ⟨rfl,hr3,ho3⟩))
   go_ret;exact⟨rfl,hr3,za7 ho ho3⟩
 . have e1':(c==93)=false:=(by simp[e1]);have hE:=HE.out;clear HE;simp only[if_neg e1] at hE
   by_cases e2:c=92
   . rw[if_pos e2] at hE;rw[hE];clear hE;have e2':(c==92)=true:=(by simp[e2]);clear e1 e2;go_enter Tryd.func136,Tryd.ntmps136;go_wp2_with (first
       | (go_at_call 119;(with_reducible refine (HN.out).mono ?_);rintro e w1 ⟨rfl,hr,ho⟩)
       | (go_at_call 130;(with_reducible refine (zjp _ g s st1 hr hs hps.1).mono ?_);rintro e w3 ⟨rfl,hr3,ho3⟩))
     go_ret;exact⟨rfl,hr3,za7 ho ho3⟩
   . rw[if_neg e2] at hE;rw[hE];clear hE;have e2':(c==92)=false:=(by simp[e2]);clear e1 e2
     by_cases e3:c<0
     . have hm:max c 0=0:=(by omega);rw[hm];go_enter Tryd.func136,Tryd.ntmps136;go_wp2_with (go_at_call 119;(with_reducible refine (HN.out).mono ?_);rintro e w1 ⟨rfl,hr,ho⟩);go_ret;exact⟨rfl,hr,ho⟩
     . have hm:max c 0=c:=(by omega);rw[hm];go_enter Tryd.func136,Tryd.ntmps136;go_wp2_with (go_at_call 119;(with_reducible refine (HN.out).mono ?_);rintro e w1 ⟨rfl,hr,ho⟩);go_ret;exact⟨rfl,hr,ho⟩
set_option maxHeartbeats 400000 in
theorem zls (w:World) (g:Nat) (s:ByteArray) (st:St) (h:Rdr w g s st) (hs:s.size<=1000) (hpos:st.pos<=s.size):
   Calls Tryd.prog 120 #[.pointer (some ⟨g,0,none⟩)] w fun e w'=>e = .returned (.int .i64 (st.number s).1)∧Rdr w' g s (st.number s).2∧w.grownBy w' (some g):=by
 have hbd:=ze8 s st;have hps:=zby s st hpos;have HN:=Zh (zbb w g s st h hs);generalize hc:(st.next s).1=c at *;generalize h1:(st.next s).2=st1 at *;have HE:Hid (st.number s=if c<48∨57<c then (0,st1.fail ((st1.pos:Int)-1) 2) else if 48<=st1.peek s∧st1.peek s<=57 then (10*(c-48)+st1.peek s-48,st1.step 1) else (c-48,st1)):=by
   show St.number s st=_
   unfold St.number;simp only[hc,h1]
 clear hc h1;have hpd:=zhx s st1;have hE:=HE.out;clear HE
 by_cases e1:c<48∨57<c
 . rw[if_pos e1] at hE;rw[hE];clear hE;rcases e1 with e1|e1
   all_goals
     go_enter Tryd.func120,Tryd.ntmps120;go_wp2_with (first
       | (go_at_call 119;(with_reducible refine (HN.out).mono ?_);rintro e w1 ⟨rfl,hr,ho⟩;obtain⟨k0,k1,k2,k3,k4⟩:=hr.cell)
       | (go_at_call 121;(with_reducible refine (zct _ g s st1 _ _ hr).mono ?_);rintro e w3 ⟨rfl,hr3,ho3⟩))
     go_ret;exact⟨rfl,hr3,za7 ho ho3⟩
 . rw[if_neg e1] at hE;have a1:48<=c:=(by omega);have a2:c<=57:=(by omega);clear e1;have HP:=Zh (fun (w:World) (h:Rdr w g s st1)=>zai w g s st1 h hs);have HQ:=Zh (zar s st1);generalize hd:st1.peek s=d at *;clear hd
   by_cases e2:48<=d∧d<=57
   . rw[if_pos e2] at hE;rw[hE];clear hE;obtain⟨b1,b2⟩:=e2;have hp:=HQ.out (by omega);have hp2:=hp.2;clear hp HQ;go_enter Tryd.func120,Tryd.ntmps120;go_wp2_with (first
       | (go_at_call 119;(with_reducible refine (HN.out).mono ?_);rintro e w1 ⟨rfl,hr,ho⟩;obtain⟨k0,k1,k2,k3,k4⟩:=hr.cell;obtain⟨f0,f1,f2,f3,f4⟩:=hr.frozen)
       | (go_at_call 91;(with_reducible refine (HP.out _ hr).mono ?_);rintro e w2 ⟨rfl,n,rfl⟩))
     go_ret;exact⟨rfl,hr.setPos (st1.pos+1),zab (zb8 ho _) _⟩
   . rw[if_neg e2] at hE;rw[hE];clear hE HQ;rcases (show d<48∨(48<=d∧57<d) by omega) with b1|⟨b1,b2⟩
     all_goals
       clear e2;go_enter Tryd.func120,Tryd.ntmps120;go_wp2_with (first
         | (go_at_call 119;(with_reducible refine (HN.out).mono ?_);rintro e w1 ⟨rfl,hr,ho⟩)
         | (go_at_call 91;(with_reducible refine (HP.out _ hr).mono ?_);rintro e w2 ⟨rfl,n,rfl⟩))
       go_ret;exact⟨rfl,hr,zab ho _⟩
section
attribute [local go_sem ↓] Go.wp_at_zero Go.wp_at_succ
def digP:Nat->Bool:=rangeP 48 57
def wordP:Nat->Bool:=orP (orP digP (memP [95])) (orP (rangeP 97 122) (rangeP 65 90))
set_option maxHeartbeats 400000 in
theorem zmp (w:World):Calls Tryd.prog 134 #[] w fun e w'=>e = .returned (setV digP)∧Below w.heap.size w w':=by
 have b0:=Box4.new0 w;have hB:Below w.heap.size w (w.alloc (.cells #[.int .u64 0,.int .u64 0,.int .u64 0,.int .u64 0] 26)):=(Below.refl _ _).alloc (Nat.le_refl _) _;generalize hw0:w.alloc (.cells #[.int .u64 0,.int .u64 0,.int .u64 0,.int .u64 0] 26)=w0 at *;have HW:=Zh hw0;clear hw0;go_enter Tryd.func134,Tryd.ntmps134;go_wp2_with fail;rw[HW.out];clear HW;go_wp2_with (go_at_call 137;(with_reducible refine (zd0 48 57 _ (by omega) (by omega) (by omega) (by omega)).mono ?_);rintro e w1 ⟨rfl,hb1⟩;unfold setV;obtain⟨d0,d1,d2,d3⟩:=(b0.stays hb1).cell;obtain⟨g0,g1,g2,g3⟩:=(b0.stays hb1).frozen);refine bodyPost_ret (v:=setV digP) ?_ rfl ⟨rfl,zb6 (g:=w.heap.size) (gro hB hb1) (Nat.le_refl _) digP⟩;unfold setV digP;simp[results,Tryd.results134,go_sem,d0,d1,d2,d3]
set_option maxRecDepth 20000 in
set_option maxHeartbeats 2000000 in
theorem zup (w:World):Calls Tryd.prog 135 #[] w fun e w'=>e = .returned (setV wordP)∧Below w.heap.size w w':=by
 have b0:=Box4.new0 w;have hB:Below w.heap.size w (w.alloc (.cells #[.int .u64 0,.int .u64 0,.int .u64 0,.int .u64 0] 26)):=(Below.refl _ _).alloc (Nat.le_refl _) _;generalize hw0:w.alloc (.cells #[.int .u64 0,.int .u64 0,.int .u64 0,.int .u64 0] 26)=w0 at *;have HW:=Zh hw0;clear hw0;go_enter Tryd.func135,Tryd.ntmps135;go_wp2_with fail;rw[HW.out];clear HW;go_wp2_with (first
   | (go_at_call 134;(with_reducible refine (zmp _).mono ?_);rintro e w1 ⟨rfl,hb1⟩;replace hB:=gro hB hb1;replace b0:=b0.stays hb1;unfold setV)
   | (go_at_call 69;(with_reducible refine (zpi _ 1 1 [95] _ rfl (zpl _ _) (by intro k hk;simp at hk;subst hk;simp) (by simp)).mono ?_);rintro e w2 ⟨rfl,hb2⟩;replace hB:=gro1 hB hb2;replace b0:=(b0.alloc _).stays hb2;unfold setV)
   | (go_at_call 38;(with_reducible refine (zsw _ _ _).mono ?_);rintro e w3 ⟨rfl,hb3⟩;replace hB:=gro hB hb3;replace b0:=b0.stays hb3;unfold setV))
 have b1:=Box4.new w3 (orP digP (memP [95]));replace b0:=b0.alloc (.cells #[.int .u64 (word (orP digP (memP [95])) 0),.int .u64 (word (orP digP (memP [95])) 1),.int .u64 (word (orP digP (memP [95])) 2),.int .u64 (word (orP digP (memP [95])) 3)] 26);replace hB:=hB.alloc hB.size (.cells #[.int .u64 (word (orP digP (memP [95])) 0),.int .u64 (word (orP digP (memP [95])) 1),.int .u64 (word (orP digP (memP [95])) 2),.int .u64 (word (orP digP (memP [95])) 3)] 26);generalize w3.alloc (.cells #[.int .u64 (word (orP digP (memP [95])) 0),.int .u64 (word (orP digP (memP [95])) 1),.int .u64 (word (orP digP (memP [95])) 2),.int .u64 (word (orP digP (memP [95])) 3)] 26)=w4 at *;obtain⟨c0,c1,c2,c3⟩:=b1.cell;go_region_law (first
   | (go_simp;go_at_call 137;(with_reducible refine (zd0 97 122 _ (by omega) (by omega) (by omega) (by omega)).mono ?_);rintro e w5 ⟨rfl,hb5⟩;replace hb5:=zay hb5;have hB5:=gro hB hb5;have b05:=b0.stays hb5;have b15:=b1.stays hb5;obtain⟨k0,k1,k2,k3⟩:=b15.cell;unfold setV)
   | (go_simp;go_at_call 137;(with_reducible refine (zd0 65 90 _ (by omega) (by omega) (by omega) (by omega)).mono ?_);rintro e w6 ⟨rfl,hb6⟩;have hB6:=gro hB5 hb6;have b06:=b05.stays hb6;have b16:=b15.stays hb6;obtain⟨l0,l1,l2,l3⟩:=b16.cell;unfold setV)
   | (go_simp;go_at_call 38;(with_reducible refine (zsw (rangeP 97 122) (rangeP 65 90) _).mono ?_);rintro e w7 ⟨rfl,hb7⟩;have hB7:=gro hB6 hb7;have b07:=b06.stays hb7;have b17:=b16.stays hb7;obtain⟨m0,m1,m2,m3⟩:=b17.cell;unfold setV)
   | (go_simp;go_at_call 38;(with_reducible refine (zsw (orP digP (memP [95])) (orP (rangeP 97 122) (rangeP 65 90)) _).mono ?_);rintro e w8 ⟨rfl,hb8⟩;have hB8:=gro hB7 hb8;unfold setV;obtain⟨d0,d1,d2,d3⟩:=(b07.stays hb8).cell;obtain⟨g0,g1,g2,g3⟩:=(b07.stays hb8).frozen))
 all_goals go_wp2
 all_goals
   refine bodyPost_ret (v:=setV wordP) ?_ rfl ⟨rfl,zb6 (g:=w.heap.size) hB8 (Nat.le_refl _) wordP⟩;unfold setV wordP;simp[results,Tryd.results135,go_sem,d0,d1,d2,d3]
def wideP (c:Int):Nat->Bool:=if c=100 then digP else if c=119 then wordP else noneP
def isWide (c:Int):Bool:=c==100||c==119
set_option maxHeartbeats 400000 in
theorem zl6 (w:World) (c:Int):Calls Tryd.prog 129 #[.int .i64 c] w fun e w'=>e = .returned (.tuple #[setV (wideP c),.bool (isWide c)])∧Below w.heap.size w w':=by
 have b0:=Box4.new0 w;have hB:Below w.heap.size w (w.alloc (.cells #[.int .u64 0,.int .u64 0,.int .u64 0,.int .u64 0] 26)):=(Below.refl _ _).alloc (Nat.le_refl _) _;generalize hw0:w.alloc (.cells #[.int .u64 0,.int .u64 0,.int .u64 0,.int .u64 0] 26)=w0 at *;have HW:=Zh hw0;clear hw0
 by_cases e1:c=100
 . have x1:wideP c=digP:=(by unfold wideP;rw[if_pos e1]);have x2:isWide c=true:=(by unfold isWide;simp[e1]);rw[x1,x2];clear x1 x2;have e1':(c==100)=true:=(by simp[e1]);clear e1;go_enter Tryd.func129,Tryd.ntmps129;go_wp2_with fail;rw[HW.out];clear HW;go_wp2_with (go_at_call 134;(with_reducible refine (zmp _).mono ?_);rintro e w1 ⟨rfl,hb1⟩;unfold setV;obtain⟨d0,d1,d2,d3⟩:=(b0.stays hb1).cell;obtain⟨g0,g1,g2,g3⟩:=(b0.stays hb1).frozen);refine bodyPost_ret (v := .tuple #[setV digP,.bool true]) ?_ rfl ⟨rfl,zb6 (g:=w.heap.size) (gro hB hb1) (Nat.le_refl _) digP⟩;unfold setV;simp[results,Tryd.results129,go_sem,d0,d1,d2,d3]
 . have e1':(c==100)=false:=by simp[e1]
   by_cases e2:c=119
   . have x1:wideP c=wordP:=(by unfold wideP;rw[if_neg e1,if_pos e2]);have x2:isWide c=true:=(by unfold isWide;simp[e2]);rw[x1,x2];clear x1 x2;have e2':(c==119)=true:=(by simp[e2]);clear e1 e2;go_enter Tryd.func129,Tryd.ntmps129;go_wp2_with fail;rw[HW.out];clear HW;go_wp2_with (go_at_call 135;(with_reducible refine (zup _).mono ?_);rintro e w1 ⟨rfl,hb1⟩;unfold setV;obtain⟨d0,d1,d2,d3⟩:=(b0.stays hb1).cell;obtain⟨g0,g1,g2,g3⟩:=(b0.stays hb1).frozen);refine bodyPost_ret (v := .tuple #[setV wordP,.bool true]) ?_ rfl ⟨rfl,zb6 (g:=w.heap.size) (gro hB hb1) (Nat.le_refl _) wordP⟩;unfold setV;simp[results,Tryd.results129,go_sem,d0,d1,d2,d3]
   . have x1:wideP c=noneP:=(by unfold wideP;rw[if_neg e1,if_neg e2]);have x2:isWide c=false:=(by unfold isWide;simp[e1,e2]);rw[x1,x2];clear x1 x2;have e2':(c==119)=false:=(by simp[e2]);clear e1 e2;obtain⟨d0,d1,d2,d3⟩:=b0.cell;obtain⟨g0,g1,g2,g3⟩:=b0.frozen;simp only[za5] at d0 d1 d2 d3;go_enter Tryd.func129,Tryd.ntmps129;go_wp2;refine bodyPost_ret (v := .tuple #[setV noneP,.bool false]) ?_ rfl ⟨rfl,(Below.refl _ _).alloc (Nat.le_refl _) _⟩;unfold setV;simp only[za5];simp[results,Tryd.results129,go_sem]
end
end Go.Proofs.YtgbdanddbgomhaaDoor
