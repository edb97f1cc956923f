import Derived.Test.YtipfgpfplakhiaaDoorTw2
set_option linter.unusedVariables false
set_option linter.unusedSimpArgs false
set_option maxRecDepth 20000
set_option maxHeartbeats 4000000
namespace Go.Proofs.YtipfgpfplakhiaaDoor
open Go Go.RowKit
theorem zgg (s:ByteArray) (st:St) (h:st.pos<=s.size):(st.escaped s).2.pos<=s.size∧st.pos<=(st.escaped s).2.pos:=by
 have:=zdx s st h;unfold St.escaped;simp only;split
 .exact this
 .split
  .exact this
  .split
   .exact this
   .rw[zis];exact this
theorem zrd (w:World) (g:Nat) (s:ByteArray) (st:St) (h:Rdr w g s st) (hs:s.size<=1000) (hpos:st.pos<=s.size):
 Calls Tryd.prog 106 #[.pointer (some ⟨g,0,none⟩)] w fun e w'=>e = .returned (.int .u8 (st.member s).1)∧Rdr w' g s (st.member s).2∧w.grownBy w' (some g):=by
 have hbd:=zhw s st;have hps:=zdx s st hpos;have HN:=Zh (zcm w g s st h hs);generalize hc:(st.next s).1=c at *;generalize h1:(st.next s).2=st1 at *;have HE:Hid (st.member s=if c=92 then (if c=93 then st1.fail ((st1.pos:Int)-1) 2 else st1).escaped s else (max c 0,if c=93 then st1.fail ((st1.pos:Int)-1) 2 else st1)):=by
  show St.member s st=_
  unfold St.member;simp only[hc,h1]
 clear hc h1
 by_cases e1:c=93
 .have hE:=HE.o;rw[if_neg yie,if_pos e1] at hE;rw[hE,e1];clear hE HE;have e1':(c==93)=true:=(by simp[e1]);have e2':(c==92)=false:=(by simp[e1]);have hc:(max c 0)=93:=yie;go_enter Tryd.func106,Tryd.ntmps106;go_wp2_with (first
   | (go_at_call 91;(with_reducible refine (HN.o).mono ?_);rintro e w1 ⟨rfl,hr,ho⟩;rw[e1];obtain⟨k0,k1,k2,k3,k4⟩:=hr.cell)
   | (go_at_call 93;(with_reducible refine (zfe _ g s st1 _ _ hr).mono ?_);rintro e w3 ⟨rfl,hr3,ho3⟩))
  go_ret;exact⟨rfl,hr3,zal ho ho3⟩
 .have e1':(c==93)=false:=(by simp[e1]);have hE:=HE.o;clear HE;simp only[if_neg e1] at hE
  by_cases e2:c=92
  .rw[if_pos e2] at hE;rw[hE];clear hE;have e2':(c==92)=true:=(by simp[e2]);clear e1 e2;go_enter Tryd.func106,Tryd.ntmps106;go_wp2_with (first
    | (go_at_call 91;(with_reducible refine (HN.o).mono ?_);rintro e w1 ⟨rfl,hr,ho⟩)
    | (go_at_call 99;(with_reducible refine (zou _ g s st1 hr hs hps.1).mono ?_);rintro e w3 ⟨rfl,hr3,ho3⟩))
   go_ret;exact⟨rfl,hr3,zal ho ho3⟩
  .rw[if_neg e2] at hE;rw[hE];clear hE;have e2':(c==92)=false:=(by simp[e2]);clear e1 e2
   by_cases e3:c<0
   .have hm:max c 0=0:=yie;rw[hm];go_enter Tryd.func106,Tryd.ntmps106;go_wp2_with (go_at_call 91;(with_reducible refine (HN.o).mono ?_);rintro e w1 ⟨rfl,hr,ho⟩);go_ret;exact⟨rfl,hr,ho⟩
   .have hm:max c 0=c:=yie;rw[hm];go_enter Tryd.func106,Tryd.ntmps106;go_wp2_with (go_at_call 91;(with_reducible refine (HN.o).mono ?_);rintro e w1 ⟨rfl,hr,ho⟩);go_ret;exact⟨rfl,hr,ho⟩
theorem zr9 (w:World) (g:Nat) (s:ByteArray) (st:St) (h:Rdr w g s st) (hs:s.size<=1000) (hpos:st.pos<=s.size):
 Calls Tryd.prog 92 #[.pointer (some ⟨g,0,none⟩)] w fun e w'=>e = .returned (.int .i64 (st.number s).1)∧Rdr w' g s (st.number s).2∧w.grownBy w' (some g):=by
 have hbd:=zhw s st;have hps:=zdx s st hpos;have HN:=Zh (zcm w g s st h hs);generalize hc:(st.next s).1=c at *;generalize h1:(st.next s).2=st1 at *;have HE:Hid (st.number s=if c<48∨57<c then (0,st1.fail ((st1.pos:Int)-1) 2) else if 48<=st1.peek s∧st1.peek s<=57 then (10*(c-48)+st1.peek s-48,st1.step 1) else (c-48,st1)):=by
  show St.number s st=_
  unfold St.number;simp only[hc,h1]
 clear hc h1;have hpd:=zmg s st1;have hE:=HE.o;clear HE
 by_cases e1:c<48∨57<c
 .rw[if_pos e1] at hE;rw[hE];clear hE;rcases e1 with e1|e1
  all_goals
   go_enter Tryd.func92,Tryd.ntmps92;go_wp2_with (first
    | (go_at_call 91;(with_reducible refine (HN.o).mono ?_);rintro e w1 ⟨rfl,hr,ho⟩;obtain⟨k0,k1,k2,k3,k4⟩:=hr.cell)
    | (go_at_call 93;(with_reducible refine (zfe _ g s st1 _ _ hr).mono ?_);rintro e w3 ⟨rfl,hr3,ho3⟩))
   go_ret;exact⟨rfl,hr3,zal ho ho3⟩
 .rw[if_neg e1] at hE;have a1:48<=c:=yie;have a2:c<=57:=yie;clear e1;have HP:=Zh (fun (w:World) (h:Rdr w g s st1)=>zb2 w g s st1 h hs);have HQ:=Zh (zbd s st1);generalize hd:st1.peek s=d at *;clear hd
  by_cases e2:48<=d∧d<=57
  .rw[if_pos e2] at hE;rw[hE];clear hE;obtain⟨b1,b2⟩:=e2;have hp:=HQ.o yie;have hp2:=hp.2;clear hp HQ;go_enter Tryd.func92,Tryd.ntmps92;go_wp2_with (first
    | (go_at_call 91;(with_reducible refine (HN.o).mono ?_);rintro e w1 ⟨rfl,hr,ho⟩;obtain⟨k0,k1,k2,k3,k4⟩:=hr.cell;obtain⟨f0,f1,f2,f3,f4⟩:=hr.frozen)
    | (go_at_call 73;(with_reducible refine (HP.o _ hr).mono ?_);rintro e w2 ⟨rfl,n,rfl⟩))
   go_ret;exact⟨rfl,hr.setPos (st1.pos+1),zap (zce ho _) _⟩
  .rw[if_neg e2] at hE;rw[hE];clear hE HQ;rcases (show d<48∨(48<=d∧57<d) by omega) with b1|⟨b1,b2⟩
   all_goals
    clear e2;go_enter Tryd.func92,Tryd.ntmps92;go_wp2_with (first
     | (go_at_call 91;(with_reducible refine (HN.o).mono ?_);rintro e w1 ⟨rfl,hr,ho⟩)
     | (go_at_call 73;(with_reducible refine (HP.o _ hr).mono ?_);rintro e w2 ⟨rfl,n,rfl⟩))
    go_ret;exact⟨rfl,hr,zap ho _⟩
section
attribute [local go_sem ↓] Go.wp_at_zero Go.wp_at_succ
def digP:Nat->Bool:=zam 48 57
def zni:Nat->Bool:=orP (orP digP (memP [95])) (orP (zam 97 122) (zam 65 90))
theorem zs6 (w:World):Calls Tryd.prog 104 #[] w fun e w'=>e = .returned (setV digP)∧Below w.heap.size w w':=by
 have b0:=Box4.new0 w;have hB:Below w.heap.size w (w.alloc (.cells #[.int .u64 0,.int .u64 0,.int .u64 0,.int .u64 0] 53)):=(yf6 _ _).alloc (yez _) _;generalize hw0:w.alloc (.cells #[.int .u64 0,.int .u64 0,.int .u64 0,.int .u64 0] 53)=w0 at *;have HW:=Zh hw0;clear hw0;go_enter Tryd.func104,Tryd.ntmps104;go_wp2_with fail;rw[HW.o];clear HW;go_wp2_with (go_at_call 107;(with_reducible refine (zfq 48 57 _ yie yie yie yie).mono ?_);rintro e w1 ⟨rfl,hb1⟩;unfold setV;obtain⟨d0,d1,d2,d3⟩:=(b0.stays hb1).cell;obtain⟨g0,g1,g2,g3⟩:=(b0.stays hb1).frozen);refine bodyPost_ret (v:=setV digP) ?_ rfl ⟨rfl,zc9 (g:=w.heap.size) (gro hB hb1) (yez _) digP⟩;unfold setV digP;simp[results,Tryd.results104,go_sem,d0,d1,d2,d3]
theorem yav (w:World):Calls Tryd.prog 105 #[] w fun e w'=>e = .returned (setV zni)∧Below w.heap.size w w':=by
 have b0:=Box4.new0 w;have hB:Below w.heap.size w (w.alloc (.cells #[.int .u64 0,.int .u64 0,.int .u64 0,.int .u64 0] 53)):=(yf6 _ _).alloc (yez _) _;generalize hw0:w.alloc (.cells #[.int .u64 0,.int .u64 0,.int .u64 0,.int .u64 0] 53)=w0 at *;have HW:=Zh hw0;clear hw0;go_enter Tryd.func105,Tryd.ntmps105;go_wp2_with fail;rw[HW.o];clear HW;go_wp2_with (first
  | (go_at_call 104;(with_reducible refine (zs6 _).mono ?_);rintro e w1 ⟨rfl,hb1⟩;replace hB:=gro hB hb1;replace b0:=b0.stays hb1;unfold setV)
  | (go_at_call 97;(with_reducible refine (zuy _ 1 1 [95] _ rfl (zv0 _ _) (by intro k hk;simp at hk;subst hk;simp) yii).mono ?_);rintro e w2 ⟨rfl,hb2⟩;replace hB:=gro1 hB hb2;replace b0:=(b0.alloc _).stays hb2;unfold setV)
  | (go_at_call 102;(with_reducible refine (zyk _ _ _).mono ?_);rintro e w3 ⟨rfl,hb3⟩;replace hB:=gro hB hb3;replace b0:=b0.stays hb3;unfold setV))
 have b1:=Box4.new w3 (orP digP (memP [95]));replace b0:=b0.alloc (.cells #[.int .u64 (word (orP digP (memP [95])) 0),.int .u64 (word (orP digP (memP [95])) 1),.int .u64 (word (orP digP (memP [95])) 2),.int .u64 (word (orP digP (memP [95])) 3)] 53);replace hB:=hB.alloc hB.size (.cells #[.int .u64 (word (orP digP (memP [95])) 0),.int .u64 (word (orP digP (memP [95])) 1),.int .u64 (word (orP digP (memP [95])) 2),.int .u64 (word (orP digP (memP [95])) 3)] 53);generalize w3.alloc (.cells #[.int .u64 (word (orP digP (memP [95])) 0),.int .u64 (word (orP digP (memP [95])) 1),.int .u64 (word (orP digP (memP [95])) 2),.int .u64 (word (orP digP (memP [95])) 3)] 53)=w4 at *;obtain⟨c0,c1,c2,c3⟩:=b1.cell;go_region_law (first
  | (go_simp;go_at_call 107;(with_reducible refine (zfq 97 122 _ yie yie yie yie).mono ?_);rintro e w5 ⟨rfl,hb5⟩;replace hb5:=zez hb5;have hB5:=gro hB hb5;have b05:=b0.stays hb5;have b15:=b1.stays hb5;obtain⟨k0,k1,k2,k3⟩:=b15.cell;unfold setV)
  | (go_simp;go_at_call 107;(with_reducible refine (zfq 65 90 _ yie yie yie yie).mono ?_);rintro e w6 ⟨rfl,hb6⟩;have hB6:=gro hB5 hb6;have b06:=b05.stays hb6;have b16:=b15.stays hb6;obtain⟨l0,l1,l2,l3⟩:=b16.cell;unfold setV)
  | (go_simp;go_at_call 102;(with_reducible refine (zyk (zam 97 122) (zam 65 90) _).mono ?_);rintro e w7 ⟨rfl,hb7⟩;have hB7:=gro hB6 hb7;have b07:=b06.stays hb7;have b17:=b16.stays hb7;obtain⟨m0,m1,m2,m3⟩:=b17.cell;unfold setV)
  | (go_simp;go_at_call 102;(with_reducible refine (zyk (orP digP (memP [95])) (orP (zam 97 122) (zam 65 90)) _).mono ?_);rintro e w8 ⟨rfl,hb8⟩;have hB8:=gro hB7 hb8;unfold setV;obtain⟨d0,d1,d2,d3⟩:=(b07.stays hb8).cell;obtain⟨g0,g1,g2,g3⟩:=(b07.stays hb8).frozen))
 all_goals go_wp2
 all_goals
  refine bodyPost_ret (v:=setV zni) ?_ rfl ⟨rfl,zc9 (g:=w.heap.size) hB8 (yez _) zni⟩;unfold setV zni;simp[results,Tryd.results105,go_sem,d0,d1,d2,d3]
def zar (c:Int):Nat->Bool:=if c=100 then digP else if c=119 then zni else za9
def zdz (c:Int):Bool:=c==100||c==119
theorem zqm (w:World) (c:Int):Calls Tryd.prog 98 #[.int .i64 c] w fun e w'=>e = .returned (.tuple #[setV (zar c),.bool (zdz c)])∧Below w.heap.size w w':=by
 have b0:=Box4.new0 w;have hB:Below w.heap.size w (w.alloc (.cells #[.int .u64 0,.int .u64 0,.int .u64 0,.int .u64 0] 53)):=(yf6 _ _).alloc (yez _) _;generalize hw0:w.alloc (.cells #[.int .u64 0,.int .u64 0,.int .u64 0,.int .u64 0] 53)=w0 at *;have HW:=Zh hw0;clear hw0
 by_cases e1:c=100
 .have x1:zar c=digP:=(by unfold zar;rw[if_pos e1]);have x2:zdz c=true:=(by unfold zdz;simp[e1]);rw[x1,x2];clear x1 x2;have e1':(c==100)=true:=(by simp[e1]);clear e1;go_enter Tryd.func98,Tryd.ntmps98;go_wp2_with fail;rw[HW.o];clear HW;go_wp2_with (go_at_call 104;(with_reducible refine (zs6 _).mono ?_);rintro e w1 ⟨rfl,hb1⟩;unfold setV;obtain⟨d0,d1,d2,d3⟩:=(b0.stays hb1).cell;obtain⟨g0,g1,g2,g3⟩:=(b0.stays hb1).frozen);refine bodyPost_ret (v := .tuple #[setV digP,.bool true]) ?_ rfl ⟨rfl,zc9 (g:=w.heap.size) (gro hB hb1) (yez _) digP⟩;unfold setV;simp[results,Tryd.results98,go_sem,d0,d1,d2,d3]
 .have e1':(c==100)=false:=by simp[e1]
  by_cases e2:c=119
  .have x1:zar c=zni:=(by unfold zar;rw[if_neg e1,if_pos e2]);have x2:zdz c=true:=(by unfold zdz;simp[e2]);rw[x1,x2];clear x1 x2;have e2':(c==119)=true:=(by simp[e2]);clear e1 e2;go_enter Tryd.func98,Tryd.ntmps98;go_wp2_with fail;rw[HW.o];clear HW;go_wp2_with (go_at_call 105;(with_reducible refine (yav _).mono ?_);rintro e w1 ⟨rfl,hb1⟩;unfold setV;obtain⟨d0,d1,d2,d3⟩:=(b0.stays hb1).cell;obtain⟨g0,g1,g2,g3⟩:=(b0.stays hb1).frozen);refine bodyPost_ret (v := .tuple #[setV zni,.bool true]) ?_ rfl ⟨rfl,zc9 (g:=w.heap.size) (gro hB hb1) (yez _) zni⟩;unfold setV;simp[results,Tryd.results98,go_sem,d0,d1,d2,d3]
  .have x1:zar c=za9:=(by unfold zar;rw[if_neg e1,if_neg e2]);have x2:zdz c=false:=(by unfold zdz;simp[e1,e2]);rw[x1,x2];clear x1 x2;have e2':(c==119)=false:=(by simp[e2]);clear e1 e2;obtain⟨d0,d1,d2,d3⟩:=b0.cell;obtain⟨g0,g1,g2,g3⟩:=b0.frozen;simp only[zak] at d0 d1 d2 d3;go_enter Tryd.func98,Tryd.ntmps98;go_wp2;refine bodyPost_ret (v := .tuple #[setV za9,.bool false]) ?_ rfl ⟨rfl,(yf6 _ _).alloc (yez _) _⟩;unfold setV;simp only[zak];simp[results,Tryd.results98,go_sem]
end
section
attribute [local go_sem ↓] Go.wp_at_zero Go.wp_at_succ
namespace St
def wideHere (s:ByteArray) (st:St):Bool:=st.peek s==92&&decide (st.pos+1<s.size)&&zdz (bt s (st.pos+1):Int)
def item (s:ByteArray) (st:St):(Nat->Bool)×St:=
 if st.wideHere s=true then (zar (bt s (st.pos+1):Int),st.step 2) else
 let lo:=(st.member s).1
 let st1:=(st.member s).2
 if st1.peek s=45 then
  let hi:=((st1.step 1).member s).1
  let st3:=((st1.step 1).member s).2
  (zam lo hi,if hi<lo then st3.fail ((st3.pos:Int)-1) 2 else st3)
 else (zam lo lo,st1)
end St
theorem zjg (s:ByteArray) (st:St):0<=(st.member s).1∧(st.member s).1<=255:=by
 have h1:=zhw s st;have h2:∀ st':St,0<=(st'.escaped s).1∧(st'.escaped s).1<=255:=by
  intro st';have h:=zhw s st';unfold St.escaped;simp only;split
  .simp
  .split
   .simp
   .split
    .rename_i h3;have:=zfx _ _ h3;simp only;omega
    .simp
 unfold St.member;simp only;split
 .exact h2 _
 .simp only;omega
theorem zl2 (s:ByteArray) (st:St) (h:st.pos<=s.size):(st.member s).2.pos<=s.size∧st.pos<=(st.member s).2.pos:=by
 have h1:=zdx s st h;unfold St.member;simp only;split
 .split
  .have:=zgg s ((st.next s).2.fail (((st.next s).2.pos:Int)-1) 2) (by rw[zis];exact h1.1);rw[zis] at this;omega
  .have:=zgg s (st.next s).2 h1.1;omega
 .simp only;split
  .rw[zis];exact h1
  .exact h1
theorem zfs (w:World) (g:Nat) (s:ByteArray) (st:St) (h:Rdr w g s st) (hs:s.size<=1000) (c:Int) (hc:st.peek s=c):
 Calls Tryd.prog 73 #[.pointer (some ⟨g,0,none⟩)] w fun e w'=>e = .returned (.int .i64 c)∧∃ n,w'=w.drewN n:=by
 rw[←hc];exact zb2 w g s st h hs
theorem zwk (w:World) (g:Nat) (s:ByteArray) (st:St) (h:Rdr w g s st) (hs:s.size<=1000) (hw:st.wideHere s=true):
 Calls Tryd.prog 101 #[.pointer (some ⟨g,0,none⟩)] w fun e w'=>e = .returned (setV (zar (bt s (st.pos+1):Int)))∧Rdr w' g s (st.step 2)∧w.grownBy w' (some g):=by
 unfold St.wideHere at hw;simp only[yh2,beq_iff_eq,decide_eq_true_eq] at hw;obtain⟨⟨hp,hlt⟩,hwd⟩:=hw;have HP:=Zh hp;clear hp;have hbe:=yct s (st.pos+1) hlt;have b0:=Box4.new0 w;have r0:=h.alloc (.cells #[.int .u64 0,.int .u64 0,.int .u64 0,.int .u64 0] 53);have hO:w.grownBy (w.alloc (.cells #[.int .u64 0,.int .u64 0,.int .u64 0,.int .u64 0] 53)) (some g):=zb5 (zbo _ _) _;have hgw:=h.lt;generalize hw0:w.alloc (.cells #[.int .u64 0,.int .u64 0,.int .u64 0,.int .u64 0] 53)=w0 at *;have HW:=Zh hw0;clear hw0;obtain⟨c0,c1,c2,c3,c4⟩:=r0.cell;have k0:(0:Int)<=(st.pos:Int)+1:=yie;have k1:(st.pos:Int)+1<(s.size:Int):=yie;have k2:IntKind.i64.wrap ((st.pos:Int)+1)=(st.pos:Int)+1:=IntWalk.i64_in _ yie;have k3:((st.pos:Int)+1).toNat=st.pos+1:=yie;have hd:decide ((st.pos:Int)+1<(s.size:Int))=true:=yil;go_enter Tryd.func101,Tryd.ntmps101;go_wp2_with fail;rw[HW.o];clear HW;go_quiet ((go_at_call 73;exact Calls.quiet_of (zfs _ g s st yj8 hs 92 HP.o)));go_wp2_with fail;generalize hw1:w0.drewN nq=w1;replace b0:Box4 w1 w.heap.size za9:=by rw[←hw1];exact b0
 replace r0:Rdr w1 g s st:=by rw[←hw1];exact r0
 replace hO:w.grownBy w1 (some g):=by rw[←hw1];exact zap hO _
 clear hw1 c0 c1 c2 c3 c4;obtain⟨c0,c1,c2,c3,c4⟩:=r0.cell;have k4:IntKind.i64.wrap (((s[st.pos+1]'hlt).toNat:Nat):Int)=(bt s (st.pos+1):Int):=by
  have:=UInt8.toNat_lt (s[st.pos+1]'hlt);rw[hbe,IntWalk.i64_in _ yie]
 have hgw1:g<w1.heap.size:=r0.lt;clear hbe;refine wp_region_noPanic ?_
 first | go_region_held (fun w'=>w'.cell? ⟨g,0,none⟩=some (.string s)∧w'.cell? ⟨g,1,none⟩=some (.int .i64 (st.pos:Int)))
  (first | exact⟨c0,c1⟩ | (go_split_ands;refine⟨?_,?_⟩ <;> first | with_reducible assumption | with_reducible exact za4 ‹_› ‹_›) | with_reducible exact⟨(r2.alloc _).cell.1,(r2.alloc _).cell.2.1⟩ | with_reducible exact⟨(r2.far4 (g':=w1.heap.size) yie _ _ _ _).cell.1,(r2.far4 (g':=w1.heap.size) yie _ _ _ _).cell.2.1⟩ | go_keep)
  (first | (go_at_call 98;(with_reducible refine (zqm _ _).mono ?_);rintro e w2 ⟨rfl,hb2⟩;unfold setV;have r2:Rdr w2 g s st:=yiu;(try (have bx:Box4 w2 w1.heap.size za9:=yiy;obtain⟨x0,x1,x2,x3⟩:=bx.cell;obtain⟨y0,y1,y2,y3⟩:=bx.frozen))))
       | fail
 all_goals try
  have bA:=bx.put (zar (bt s (st.pos+1):Int));have nA:w.heap.size≠w1.heap.size:=(by have:=b0.lt;omega);have gA:g≠w1.heap.size:=yie;have bZ:Box4 (put4 w2 w1.heap.size (zar (bt s (st.pos+1):Int))) w.heap.size za9:=(show Box4 w2 w.heap.size za9 by first | with_reducible exact (b0.drew.alloc _).stays hb2 | with_reducible exact (b0.alloc _).drew.stays hb2).putFar nA _;have rA:=r2.put4 gA (zar (bt s (st.pos+1):Int));have oA:w.grownBy (put4 w2 w1.heap.size (zar (bt s (st.pos+1):Int))) (some g):=zdl yiz hO.size _;change NoPanic _ _ _ (put4 w2 w1.heap.size (zar (bt s (st.pos+1):Int)));generalize put4 w2 w1.heap.size (zar (bt s (st.pos+1):Int))=w3 at *;generalize w1.heap.size=gx at *
 all_goals try
  fail_if_success (have:=oA)
  have rA:=r2.alloc (.cells #[.int .u64 (word (zar (bt s (st.pos+1):Int)) 0),.int .u64 (word (zar (bt s (st.pos+1):Int)) 1),.int .u64 (word (zar (bt s (st.pos+1):Int)) 2),.int .u64 (word (zar (bt s (st.pos+1):Int)) 3)] 53);have bA:=Box4.new w2 (zar (bt s (st.pos+1):Int));have bZ:=(b0.drew.stays hb2).alloc (.cells #[.int .u64 (word (zar (bt s (st.pos+1):Int)) 0),.int .u64 (word (zar (bt s (st.pos+1):Int)) 1),.int .u64 (word (zar (bt s (st.pos+1):Int)) 2),.int .u64 (word (zar (bt s (st.pos+1):Int)) 3)] 53);have oA:=zb5 (zay (zdm hO) hb2) (.cells #[.int .u64 (word (zar (bt s (st.pos+1):Int)) 0),.int .u64 (word (zar (bt s (st.pos+1):Int)) 1),.int .u64 (word (zar (bt s (st.pos+1):Int)) 2),.int .u64 (word (zar (bt s (st.pos+1):Int)) 3)] 53);have gA:g≠w2.heap.size:=(by have:=r2.lt;omega);have nA:w.heap.size≠w2.heap.size:=(by have:=(b0.drew.stays hb2).lt;omega);generalize w2.alloc (.cells #[.int .u64 (word (zar (bt s (st.pos+1):Int)) 0),.int .u64 (word (zar (bt s (st.pos+1):Int)) 1),.int .u64 (word (zar (bt s (st.pos+1):Int)) 2),.int .u64 (word (zar (bt s (st.pos+1):Int)) 3)] 53)=w3 at *;generalize w2.heap.size=gx at *
 all_goals
  refine NoPanic.normal ?_;have hNg:w.heap.size≠g:=yie;clear hb2 r2 b0 r0 hO c0 c1 c2 c3 c4 hd HP;obtain⟨c0,c1,c2,c3,c4⟩:=rA.cell;obtain⟨f0,f1,f2,f3,f4⟩:=rA.frozen;obtain⟨d0,d1,d2,d3⟩:=bA.cell;obtain⟨l0,l1,l2,l3⟩:=bZ.cell;obtain⟨m0,m1,m2,m3⟩:=bZ.frozen;go_wp2;refine bodyPost_ret (v:=setV (zar (bt s (st.pos+1):Int))) ?_ rfl ⟨rfl,?_,?_⟩
  .unfold setV;simp[results,Tryd.results101,go_sem,l0,l1,l2,l3,hNg,Ne.symm hNg]
  .exact (rA.setPos (st.pos+2)).far4 (Ne.symm hNg) _ _ _ _
  .exact zab (zab (zab (zab (zce oA _) (yez _) _) (yez _) _) (yez _) _) (yez _) _
end
end Go.Proofs.YtipfgpfplakhiaaDoor
