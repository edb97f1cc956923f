import Derived.Test.YtipfgpfplakhiaaTc2
set_option linter.unusedVariables false
set_option linter.unusedSimpArgs false
set_option maxRecDepth 20000
set_option maxHeartbeats 4000000
namespace Go.Proofs.Ytipfgpfplakhiaa
open Go Go.RowKit
section
attribute [local go_sem ↓] Go.wp_at_zero Go.wp_at_succ
def digP:Nat->Bool:=zat 48 57
def zno:Nat->Bool:=orP (orP digP (memP [95])) (orP (zat 97 122) (zat 65 90))
theorem zsg (w:World):Calls Try.prog 96 #[] w fun e w'=>e = .returned (setV digP)∧Below w.heap.size w w':=by
 have b0:=Box4.new0 w;have hB:Below w.heap.size w (w.alloc (.cells #[.int .u64 0,.int .u64 0,.int .u64 0,.int .u64 0] 64)):=(ygr _ _).alloc (ygo _) _;generalize hw0:w.alloc (.cells #[.int .u64 0,.int .u64 0,.int .u64 0,.int .u64 0] 64)=w0 at *;have HW:=Zh hw0;clear hw0;go_enter Try.func96,Try.ntmps96;go_wp2_with fail;rw[HW.o];clear HW;go_wp2_with (go_at_call 99;(with_reducible refine (zg7 48 57 _ yjz yjz yjz yjz).mono ?_);rintro e w1 ⟨rfl,hb1⟩;unfold setV;obtain⟨d0,d1,d2,d3⟩:=(b0.stays hb1).cell;obtain⟨g0,g1,g2,g3⟩:=(b0.stays hb1).frozen);refine bodyPost_ret (v:=setV digP) ?_ rfl ⟨rfl,zco (g:=w.heap.size) (gro hB hb1) (ygo _) digP⟩;unfold setV digP;simp[results,Try.results96,go_sem,d0,d1,d2,d3]
theorem ycu (w:World):Calls Try.prog 97 #[] w fun e w'=>e = .returned (setV zno)∧Below w.heap.size w w':=by
 have b0:=Box4.new0 w;have hB:Below w.heap.size w (w.alloc (.cells #[.int .u64 0,.int .u64 0,.int .u64 0,.int .u64 0] 64)):=(ygr _ _).alloc (ygo _) _;generalize hw0:w.alloc (.cells #[.int .u64 0,.int .u64 0,.int .u64 0,.int .u64 0] 64)=w0 at *;have HW:=Zh hw0;clear hw0;go_enter Try.func97,Try.ntmps97;go_wp2_with fail;rw[HW.o];clear HW;go_wp2_with (first
  | (go_at_call 96;(with_reducible refine (zsg _).mono ?_);rintro e w1 ⟨rfl,hb1⟩;replace hB:=gro hB hb1;replace b0:=b0.stays hb1;unfold setV)
  | (go_at_call 90;(with_reducible refine (zvt _ 1 1 [95] _ rfl (zvw _ _) (by intro k hk;simp at hk;subst hk;simp) yk3).mono ?_);rintro e w2 ⟨rfl,hb2⟩;replace hB:=gro1 hB hb2;replace b0:=(b0.alloc _).stays hb2;unfold setV)
  | (go_at_call 95;(with_reducible refine (zzz _ _ _).mono ?_);rintro e w3 ⟨rfl,hb3⟩;replace hB:=gro hB hb3;replace b0:=b0.stays hb3;unfold setV))
 have b1:=Box4.new w3 (orP digP (memP [95]));replace b0:=b0.alloc (.cells #[.int .u64 (word (orP digP (memP [95])) 0),.int .u64 (word (orP digP (memP [95])) 1),.int .u64 (word (orP digP (memP [95])) 2),.int .u64 (word (orP digP (memP [95])) 3)] 64);replace hB:=hB.alloc hB.size (.cells #[.int .u64 (word (orP digP (memP [95])) 0),.int .u64 (word (orP digP (memP [95])) 1),.int .u64 (word (orP digP (memP [95])) 2),.int .u64 (word (orP digP (memP [95])) 3)] 64);generalize w3.alloc (.cells #[.int .u64 (word (orP digP (memP [95])) 0),.int .u64 (word (orP digP (memP [95])) 1),.int .u64 (word (orP digP (memP [95])) 2),.int .u64 (word (orP digP (memP [95])) 3)] 64)=w4 at *;obtain⟨c0,c1,c2,c3⟩:=b1.cell;go_region_law (first
  | (go_simp;go_at_call 99;(with_reducible refine (zg7 97 122 _ yjz yjz yjz yjz).mono ?_);rintro e w5 ⟨rfl,hb5⟩;replace hb5:=zd5 hb5;have hB5:=gro hB hb5;have b05:=b0.stays hb5;have b15:=b1.stays hb5;obtain⟨k0,k1,k2,k3⟩:=b15.cell;unfold setV)
  | (go_simp;go_at_call 99;(with_reducible refine (zg7 65 90 _ yjz yjz yjz yjz).mono ?_);rintro e w6 ⟨rfl,hb6⟩;have hB6:=gro hB5 hb6;have b06:=b05.stays hb6;have b16:=b15.stays hb6;obtain⟨l0,l1,l2,l3⟩:=b16.cell;unfold setV)
  | (go_simp;go_at_call 95;(with_reducible refine (zzz (zat 97 122) (zat 65 90) _).mono ?_);rintro e w7 ⟨rfl,hb7⟩;have hB7:=gro hB6 hb7;have b07:=b06.stays hb7;have b17:=b16.stays hb7;obtain⟨m0,m1,m2,m3⟩:=b17.cell;unfold setV)
  | (go_simp;go_at_call 95;(with_reducible refine (zzz (orP digP (memP [95])) (orP (zat 97 122) (zat 65 90)) _).mono ?_);rintro e w8 ⟨rfl,hb8⟩;have hB8:=gro hB7 hb8;unfold setV;obtain⟨d0,d1,d2,d3⟩:=(b07.stays hb8).cell;obtain⟨g0,g1,g2,g3⟩:=(b07.stays hb8).frozen))
 all_goals go_wp2
 all_goals
  refine bodyPost_ret (v:=setV zno) ?_ rfl ⟨rfl,zco (g:=w.heap.size) hB8 (ygo _) zno⟩;unfold setV zno;simp[results,Try.results97,go_sem,d0,d1,d2,d3]
def zay (c:Int):Nat->Bool:=if c=100 then digP else if c=119 then zno else zaa
def zeh (c:Int):Bool:=c==100||c==119
theorem zr0 (w:World) (c:Int):Calls Try.prog 91 #[.int .i64 c] w fun e w'=>e = .returned (.tuple #[setV (zay c),.bool (zeh c)])∧Below w.heap.size w w':=by
 have b0:=Box4.new0 w;have hB:Below w.heap.size w (w.alloc (.cells #[.int .u64 0,.int .u64 0,.int .u64 0,.int .u64 0] 64)):=(ygr _ _).alloc (ygo _) _;generalize hw0:w.alloc (.cells #[.int .u64 0,.int .u64 0,.int .u64 0,.int .u64 0] 64)=w0 at *;have HW:=Zh hw0;clear hw0
 by_cases e1:c=100
 .have x1:zay c=digP:=(by unfold zay;rw[if_pos e1]);have x2:zeh c=true:=(by unfold zeh;simp[e1]);rw[x1,x2];clear x1 x2;have e1':(c==100)=true:=(by simp[e1]);clear e1;go_enter Try.func91,Try.ntmps91;go_wp2_with fail;rw[HW.o];clear HW;go_wp2_with (go_at_call 96;(with_reducible refine (zsg _).mono ?_);rintro e w1 ⟨rfl,hb1⟩;unfold setV;obtain⟨d0,d1,d2,d3⟩:=(b0.stays hb1).cell;obtain⟨g0,g1,g2,g3⟩:=(b0.stays hb1).frozen);refine bodyPost_ret (v := .tuple #[setV digP,.bool true]) ?_ rfl ⟨rfl,zco (g:=w.heap.size) (gro hB hb1) (ygo _) digP⟩;unfold setV;simp[results,Try.results91,go_sem,d0,d1,d2,d3]
 .have e1':(c==100)=false:=by simp[e1]
  by_cases e2:c=119
  .have x1:zay c=zno:=(by unfold zay;rw[if_neg e1,if_pos e2]);have x2:zeh c=true:=(by unfold zeh;simp[e2]);rw[x1,x2];clear x1 x2;have e2':(c==119)=true:=(by simp[e2]);clear e1 e2;go_enter Try.func91,Try.ntmps91;go_wp2_with fail;rw[HW.o];clear HW;go_wp2_with (go_at_call 97;(with_reducible refine (ycu _).mono ?_);rintro e w1 ⟨rfl,hb1⟩;unfold setV;obtain⟨d0,d1,d2,d3⟩:=(b0.stays hb1).cell;obtain⟨g0,g1,g2,g3⟩:=(b0.stays hb1).frozen);refine bodyPost_ret (v := .tuple #[setV zno,.bool true]) ?_ rfl ⟨rfl,zco (g:=w.heap.size) (gro hB hb1) (ygo _) zno⟩;unfold setV;simp[results,Try.results91,go_sem,d0,d1,d2,d3]
  .have x1:zay c=zaa:=(by unfold zay;rw[if_neg e1,if_neg e2]);have x2:zeh c=false:=(by unfold zeh;simp[e1,e2]);rw[x1,x2];clear x1 x2;have e2':(c==119)=false:=(by simp[e2]);clear e1 e2;obtain⟨d0,d1,d2,d3⟩:=b0.cell;obtain⟨g0,g1,g2,g3⟩:=b0.frozen;simp only[zah] at d0 d1 d2 d3;go_enter Try.func91,Try.ntmps91;go_wp2;refine bodyPost_ret (v := .tuple #[setV zaa,.bool false]) ?_ rfl ⟨rfl,(ygr _ _).alloc (ygo _) _⟩;unfold setV;simp only[zah];simp[results,Try.results91,go_sem]
end
section
attribute [local go_sem ↓] Go.wp_at_zero Go.wp_at_succ
namespace St
def wideHere (s:ByteArray) (st:St):Bool:=st.peek s==92&&decide (st.pos+1<s.size)&&zeh (bt s (st.pos+1):Int)
def item (s:ByteArray) (st:St):(Nat->Bool)×St:=
 if st.wideHere s=true then (zay (bt s (st.pos+1):Int),st.step 2) else
 let lo:=(st.member s).1
 let st1:=(st.member s).2
 if st1.peek s=45 then
  let hi:=((st1.step 1).member s).1
  let st3:=((st1.step 1).member s).2
  (zat lo hi,if hi<lo then st3.fail ((st3.pos:Int)-1) 2 else st3)
 else (zat lo lo,st1)
end St
theorem zk1 (s:ByteArray) (st:St):0<=(st.member s).1∧(st.member s).1<=255:=by
 have h1:=zi5 s st;have h2:∀ st':St,0<=(st'.escaped s).1∧(st'.escaped s).1<=255:=by
  intro st';have h:=zi5 s st';unfold St.escaped;simp only;split
  .simp
  .split
   .simp
   .split
    .rename_i h3;have:=zgd _ _ h3;simp only;omega
    .simp
 unfold St.member;simp only;split
 .exact h2 _
 .simp only;omega
theorem zli (s:ByteArray) (st:St) (h:st.pos<=s.size):(st.member s).2.pos<=s.size∧st.pos<=(st.member s).2.pos:=by
 have h1:=zeg s st h;unfold St.member;simp only;split
 .split
  .have:=zgv s ((st.next s).2.fail (((st.next s).2.pos:Int)-1) 2) (by rw[zja];exact h1.1);rw[zja] at this;omega
  .have:=zgv s (st.next s).2 h1.1;omega
 .simp only;split
  .rw[zja];exact h1
  .exact h1
theorem zg9 (w:World) (g:Nat) (s:ByteArray) (st:St) (h:Rdr w g s st) (hs:s.size<=1000) (c:Int) (hc:st.peek s=c):
 Calls Try.prog 77 #[.pointer (some ⟨g,0,none⟩)] w fun e w'=>e = .returned (.int .i64 c)∧∃ n,w'=w.drewN n:=by
 rw[←hc];exact zbe w g s st h hs
theorem zxf (w:World) (g:Nat) (s:ByteArray) (st:St) (h:Rdr w g s st) (hs:s.size<=1000) (hw:st.wideHere s=true):
 Calls Try.prog 94 #[.pointer (some ⟨g,0,none⟩)] w fun e w'=>e = .returned (setV (zay (bt s (st.pos+1):Int)))∧Rdr w' g s (st.step 2)∧w.grownBy w' (some g):=by
 unfold St.wideHere at hw;simp only[yjd,beq_iff_eq,decide_eq_true_eq] at hw;obtain⟨⟨hp,hlt⟩,hwd⟩:=hw;have HP:=Zh hp;clear hp;have hbe:=yeh s (st.pos+1) hlt;have b0:=Box4.new0 w;have r0:=h.alloc (.cells #[.int .u64 0,.int .u64 0,.int .u64 0,.int .u64 0] 64);have hO:w.grownBy (w.alloc (.cells #[.int .u64 0,.int .u64 0,.int .u64 0,.int .u64 0] 64)) (some g):=zbg (zbx _ _) _;have hgw:=h.lt;generalize hw0:w.alloc (.cells #[.int .u64 0,.int .u64 0,.int .u64 0,.int .u64 0] 64)=w0 at *;have HW:=Zh hw0;clear hw0;obtain⟨c0,c1,c2,c3,c4⟩:=r0.cell;have k0:(0:Int)<=(st.pos:Int)+1:=yjz;have k1:(st.pos:Int)+1<(s.size:Int):=yjz;have k2:IntKind.i64.wrap ((st.pos:Int)+1)=(st.pos:Int)+1:=IntWalk.i64_in _ yjz;have k3:((st.pos:Int)+1).toNat=st.pos+1:=yjz;have hd:decide ((st.pos:Int)+1<(s.size:Int))=true:=yk8;go_enter Try.func94,Try.ntmps94;go_wp2_with fail;rw[HW.o];clear HW;go_quiet ((go_at_call 77;exact Calls.quiet_of (zg9 _ g s st yl8 hs 92 HP.o)));go_wp2_with fail;generalize hw1:w0.drewN nq=w1;replace b0:Box4 w1 w.heap.size zaa:=by rw[←hw1];exact b0
 replace r0:Rdr w1 g s st:=by rw[←hw1];exact r0
 replace hO:w.grownBy w1 (some g):=by rw[←hw1];exact zax hO _
 clear hw1 c0 c1 c2 c3 c4;obtain⟨c0,c1,c2,c3,c4⟩:=r0.cell;have k4:IntKind.i64.wrap (((s[st.pos+1]'hlt).toNat:Nat):Int)=(bt s (st.pos+1):Int):=by
  have:=UInt8.toNat_lt (s[st.pos+1]'hlt);rw[hbe,IntWalk.i64_in _ yjz]
 have hgw1:g<w1.heap.size:=r0.lt;clear hbe;refine wp_region_noPanic ?_
 first | go_region_held (fun w'=>w'.cell? ⟨g,0,none⟩=some (.string s)∧w'.cell? ⟨g,1,none⟩=some (.int .i64 (st.pos:Int)))
  (first | exact⟨c0,c1⟩ | (go_split_ands;refine⟨?_,?_⟩ <;> first | with_reducible assumption | with_reducible exact za3 ‹_› ‹_›) | with_reducible exact⟨(r2.alloc _).cell.1,(r2.alloc _).cell.2.1⟩ | with_reducible exact⟨(r2.far4 (g':=w1.heap.size) yjz _ _ _ _).cell.1,(r2.far4 (g':=w1.heap.size) yjz _ _ _ _).cell.2.1⟩ | go_keep)
  (first | (go_at_call 91;(with_reducible refine (zr0 _ _).mono ?_);rintro e w2 ⟨rfl,hb2⟩;unfold setV;have r2:Rdr w2 g s st:=yki;(try (have bx:Box4 w2 w1.heap.size zaa:=yko;obtain⟨x0,x1,x2,x3⟩:=bx.cell;obtain⟨y0,y1,y2,y3⟩:=bx.frozen))))
       | fail
 all_goals try
  have bA:=bx.put (zay (bt s (st.pos+1):Int));have nA:w.heap.size≠w1.heap.size:=(by have:=b0.lt;omega);have gA:g≠w1.heap.size:=yjz;have bZ:Box4 (put4 w2 w1.heap.size (zay (bt s (st.pos+1):Int))) w.heap.size zaa:=(show Box4 w2 w.heap.size zaa by first | with_reducible exact (b0.drew.alloc _).stays hb2 | with_reducible exact (b0.alloc _).drew.stays hb2).putFar nA _;have rA:=r2.put4 gA (zay (bt s (st.pos+1):Int));have oA:w.grownBy (put4 w2 w1.heap.size (zay (bt s (st.pos+1):Int))) (some g):=ze1 yks hO.size _;change NoPanic _ _ _ (put4 w2 w1.heap.size (zay (bt s (st.pos+1):Int)));generalize put4 w2 w1.heap.size (zay (bt s (st.pos+1):Int))=w3 at *;generalize w1.heap.size=gx at *
 all_goals try
  fail_if_success (have:=oA)
  have rA:=r2.alloc (.cells #[.int .u64 (word (zay (bt s (st.pos+1):Int)) 0),.int .u64 (word (zay (bt s (st.pos+1):Int)) 1),.int .u64 (word (zay (bt s (st.pos+1):Int)) 2),.int .u64 (word (zay (bt s (st.pos+1):Int)) 3)] 64);have bA:=Box4.new w2 (zay (bt s (st.pos+1):Int));have bZ:=(b0.drew.stays hb2).alloc (.cells #[.int .u64 (word (zay (bt s (st.pos+1):Int)) 0),.int .u64 (word (zay (bt s (st.pos+1):Int)) 1),.int .u64 (word (zay (bt s (st.pos+1):Int)) 2),.int .u64 (word (zay (bt s (st.pos+1):Int)) 3)] 64);have oA:=zbg (zbb (ze2 hO) hb2) (.cells #[.int .u64 (word (zay (bt s (st.pos+1):Int)) 0),.int .u64 (word (zay (bt s (st.pos+1):Int)) 1),.int .u64 (word (zay (bt s (st.pos+1):Int)) 2),.int .u64 (word (zay (bt s (st.pos+1):Int)) 3)] 64);have gA:g≠w2.heap.size:=(by have:=r2.lt;omega);have nA:w.heap.size≠w2.heap.size:=(by have:=(b0.drew.stays hb2).lt;omega);generalize w2.alloc (.cells #[.int .u64 (word (zay (bt s (st.pos+1):Int)) 0),.int .u64 (word (zay (bt s (st.pos+1):Int)) 1),.int .u64 (word (zay (bt s (st.pos+1):Int)) 2),.int .u64 (word (zay (bt s (st.pos+1):Int)) 3)] 64)=w3 at *;generalize w2.heap.size=gx at *
 all_goals
  refine NoPanic.normal ?_;have hNg:w.heap.size≠g:=yjz;clear hb2 r2 b0 r0 hO c0 c1 c2 c3 c4 hd HP;obtain⟨c0,c1,c2,c3,c4⟩:=rA.cell;obtain⟨f0,f1,f2,f3,f4⟩:=rA.frozen;obtain⟨d0,d1,d2,d3⟩:=bA.cell;obtain⟨l0,l1,l2,l3⟩:=bZ.cell;obtain⟨m0,m1,m2,m3⟩:=bZ.frozen;go_wp2;refine bodyPost_ret (v:=setV (zay (bt s (st.pos+1):Int))) ?_ rfl ⟨rfl,?_,?_⟩
  .unfold setV;simp[results,Try.results94,go_sem,l0,l1,l2,l3,hNg,Ne.symm hNg]
  .exact (rA.setPos (st.pos+2)).far4 (Ne.symm hNg) _ _ _ _
  .exact zae (zae (zae (zae (zct oA _) (ygo _) _) (ygo _) _) (ygo _) _) (ygo _) _
end
end Go.Proofs.Ytipfgpfplakhiaa
