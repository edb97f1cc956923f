import Derived.Test.YtipfgpfplakhiaaDoorTw5
set_option linter.unusedVariables false
set_option linter.unusedSimpArgs false
set_option maxRecDepth 20000
set_option maxHeartbeats 4000000
namespace Go.Proofs.YtipfgpfplakhiaaDoor
open Go Go.RowKit
section
attribute [local go_sem ↓] Go.wp_at_zero Go.wp_at_succ
def St.escHere (s:ByteArray) (st:St):Bool:=st.peek s==92&&decide (st.pos+1<s.size)
theorem zwl (w:World) (g:Nat) (s:ByteArray) (st:St) (h:Rdr w g s st) (hs:s.size<=1000) (hpos:st.pos<=s.size) (hw:st.wideHere s=false):
 Calls Tryd.prog 101 #[.pointer (some ⟨g,0,none⟩)] w fun e w'=>e = .returned (setV (st.item s).1)∧Rdr w' g s (st.item s).2∧w.grownBy w' (some g):=by
 have b0:=Box4.new0 w;have r0:=h.alloc (.cells #[.int .u64 0,.int .u64 0,.int .u64 0,.int .u64 0] 53);have hO:w.grownBy (w.alloc (.cells #[.int .u64 0,.int .u64 0,.int .u64 0,.int .u64 0] 53)) (some g):=zb5 (zbo _ _) _;have hgw:=h.lt;generalize hw0:w.alloc (.cells #[.int .u64 0,.int .u64 0,.int .u64 0,.int .u64 0] 53)=w0 at *;have HW:=Zh hw0;have HH:=Zh hw;clear hw0 hw;go_enter Tryd.func101,Tryd.ntmps101;go_wp2_with fail;rw[HW.o];clear HW;go_cut [22] (fun s22 wx=>s22 = .bool (st.escHere s)∧Rdr wx g s st∧Box4 wx w.heap.size za9∧w.grownBy wx (some g))
 case first =>
  obtain⟨c0,c1,c2,c3,c4⟩:=r0.cell
  by_cases hp:st.peek s=92
  .have HP:=Zh hp
   by_cases hlt:st.pos+1<s.size
   .have HS:Hid (st.escHere s=true):=by show St.escHere s st=true;unfold St.escHere;simp[hp,hlt]
    clear hp;have k0:(0:Int)<=(st.pos:Int)+1:=yie;have k1:(st.pos:Int)+1<(s.size:Int):=yie;have k2:IntKind.i64.wrap ((st.pos:Int)+1)=(st.pos:Int)+1:=IntWalk.i64_in _ yie;have k3:((st.pos:Int)+1).toNat=st.pos+1:=yie;have hd:decide ((st.pos:Int)+1<(s.size:Int))=true:=yil;go_quiet ((go_at_call 73;exact Calls.quiet_of (zfs _ g s st yj8 hs 92 HP.o)));go_wp2_with fail;go_meet;exact⟨by rw[HS.o],r0.drewN _,b0,zap hO _⟩
   .have HS:Hid (st.escHere s=false):=by show St.escHere s st=false;unfold St.escHere;simp[hlt]
    clear hp;have k2:IntKind.i64.wrap ((st.pos:Int)+1)=(st.pos:Int)+1:=IntWalk.i64_in _ yie;have hd:decide ((st.pos:Int)+1<(s.size:Int))=false:=yil;go_quiet ((go_at_call 73;exact Calls.quiet_of (zfs _ g s st yj8 hs 92 HP.o)));go_wp2_with fail;go_meet;exact⟨by rw[HS.o],r0.drewN _,b0,zap hO _⟩
  .have hp':(st.peek s==92)=false:=(by simp[hp]);have HS:Hid (st.escHere s=false):=by show St.escHere s st=false;unfold St.escHere;simp[hp]
   clear hp;go_quiet ((go_at_call 73;exact Calls.quiet_of (zfs _ g s st yj8 hs _ rfl)));go_wp2_with fail;go_meet;exact⟨by rw[HS.o],r0.drewN _,b0,zap hO _⟩
 case rest =>
 clear r0 b0 hO;obtain⟨hs22,r0,b0,hO⟩:=hcut;generalize wc=w1 at *;go_upto_if 22 with fail
 go_cut [] (fun wx=>Rdr wx g s st∧Box4 wx w.heap.size za9∧w.grownBy wx (some g))
 case first =>
  cases hesc:st.escHere s
  .rw[hesc] at hs22;subst hs22;go_wp2_with fail;go_meet;exact⟨r0,b0,hO⟩
  .rw[hesc] at hs22;subst hs22;have he2:=hesc;unfold St.escHere at he2;simp only[yh2,beq_iff_eq,decide_eq_true_eq] at he2;obtain⟨hp,hlt⟩:=he2;have hwd:zdz (bt s (st.pos+1):Int)=false:=by
    have:=HH.o;unfold St.wideHere at this
    simpa [hp,hlt] using this
   clear hp hesc;have hbe:=yct s (st.pos+1) hlt;have k0:(0:Int)<=(st.pos:Int)+1:=yie;have k1:(st.pos:Int)+1<(s.size:Int):=yie;have k2:IntKind.i64.wrap ((st.pos:Int)+1)=(st.pos:Int)+1:=IntWalk.i64_in _ yie;have k3:((st.pos:Int)+1).toNat=st.pos+1:=yie;go_wp2_with fail;obtain⟨c0,c1,c2,c3,c4⟩:=r0.cell;have k4:IntKind.i64.wrap (((s[st.pos+1]'hlt).toNat:Nat):Int)=(bt s (st.pos+1):Int):=by
    have:=UInt8.toNat_lt (s[st.pos+1]'hlt);rw[hbe,IntWalk.i64_in _ yie]
   have hgw1:g<w1.heap.size:=r0.lt;clear hbe;refine wp_region_noPanic ?_
   first | go_region_held (fun w'=>w'.cell? ⟨g,0,none⟩=some (.string s)∧w'.cell? ⟨g,1,none⟩=some (.int .i64 (st.pos:Int)))
    (first | exact⟨c0,c1⟩ | (go_split_ands;refine⟨?_,?_⟩ <;> first | with_reducible assumption | with_reducible exact za4 ‹_› ‹_›) | with_reducible exact⟨(r2.alloc _).cell.1,(r2.alloc _).cell.2.1⟩ | with_reducible exact⟨(r2.far4 (g':=w1.heap.size) yie _ _ _ _).cell.1,(r2.far4 (g':=w1.heap.size) yie _ _ _ _).cell.2.1⟩ | go_keep)
    (first | (go_at_call 98;(with_reducible refine (zqm _ _).mono ?_);rintro e w2 ⟨rfl,hb2⟩;unfold setV;have r2:Rdr w2 g s st:=yiu;(try (have bx:Box4 w2 w1.heap.size za9:=yiy;obtain⟨x0,x1,x2,x3⟩:=bx.cell;obtain⟨y0,y1,y2,y3⟩:=bx.frozen))))
         | fail
   all_goals try
    have nA:w.heap.size≠w1.heap.size:=(by have:=b0.lt;omega);have gA:g≠w1.heap.size:=yie;have bZ:Box4 (put4 w2 w1.heap.size (zar (bt s (st.pos+1):Int))) w.heap.size za9:=(show Box4 w2 w.heap.size za9 by first | with_reducible exact (b0.drew.alloc _).stays hb2 | with_reducible exact (b0.alloc _).drew.stays hb2).putFar nA _;have rA:=r2.put4 gA (zar (bt s (st.pos+1):Int));have oA:w.grownBy (put4 w2 w1.heap.size (zar (bt s (st.pos+1):Int))) (some g):=zdl yiz hO.size _;change NoPanic _ _ _ (put4 w2 w1.heap.size (zar (bt s (st.pos+1):Int)));generalize put4 w2 w1.heap.size (zar (bt s (st.pos+1):Int))=w3 at *
   all_goals try
    fail_if_success (have:=oA)
    have rA:=r2.alloc (.cells #[.int .u64 (word (zar (bt s (st.pos+1):Int)) 0),.int .u64 (word (zar (bt s (st.pos+1):Int)) 1),.int .u64 (word (zar (bt s (st.pos+1):Int)) 2),.int .u64 (word (zar (bt s (st.pos+1):Int)) 3)] 53);have bZ:=(b0.drew.stays hb2).alloc (.cells #[.int .u64 (word (zar (bt s (st.pos+1):Int)) 0),.int .u64 (word (zar (bt s (st.pos+1):Int)) 1),.int .u64 (word (zar (bt s (st.pos+1):Int)) 2),.int .u64 (word (zar (bt s (st.pos+1):Int)) 3)] 53);have oA:=zb5 (zay (zdm hO) hb2) (.cells #[.int .u64 (word (zar (bt s (st.pos+1):Int)) 0),.int .u64 (word (zar (bt s (st.pos+1):Int)) 1),.int .u64 (word (zar (bt s (st.pos+1):Int)) 2),.int .u64 (word (zar (bt s (st.pos+1):Int)) 3)] 53);generalize w2.alloc (.cells #[.int .u64 (word (zar (bt s (st.pos+1):Int)) 0),.int .u64 (word (zar (bt s (st.pos+1):Int)) 1),.int .u64 (word (zar (bt s (st.pos+1):Int)) 2),.int .u64 (word (zar (bt s (st.pos+1):Int)) 3)] 53)=w3 at *
   all_goals
    refine NoPanic.normal ?_;clear hb2 r2 b0 r0 hO c0 c1 c2 c3 c4;go_wp2_with fail;go_meet;exact⟨rA,bZ,oA⟩
 case rest =>
  obtain⟨r1,b1,hO1⟩:=hcut;have hm1:=zl2 s st hpos;have hl1:=zjg s st;have HE:Hid (st.item s=if (st.member s).2.peek s=45 then (zam (st.member s).1 (((st.member s).2.step 1).member s).1,if (((st.member s).2.step 1).member s).1<(st.member s).1 then (((st.member s).2.step 1).member s).2.fail (((((st.member s).2.step 1).member s).2.pos:Int)-1) 2 else (((st.member s).2.step 1).member s).2) else (zam (st.member s).1 (st.member s).1,(st.member s).2)):=by
   show St.item s st=_
   unfold St.item;rw[if_neg (by rw[HH.o];simp)]
  have HM:=Zh (zrd wc g s st r1 hs hpos);generalize hlo:(st.member s).1=lo at *;generalize hs1:(st.member s).2=st1 at *;clear hlo hs1 HH;have hgb:w.heap.size≠g:=by omega
  by_cases hp:st1.peek s=45
  .have hp1:=zbd s st1 yie;have hE:=HE.o;rw[if_pos hp] at hE;clear HE;have hp':(st1.peek s==45)=true:=(by simp[hp]);clear hp;have hm3:=zl2 s (st1.step 1) (show st1.pos+1<=s.size by omega);have hl3:=zjg s (st1.step 1);have HM3:∀ w,Rdr w g s (st1.step 1)->Calls Tryd.prog 106 #[.pointer (some ⟨g,0,none⟩)] w fun e w'=>e = .returned (.int .u8 ((st1.step 1).member s).1)∧Rdr w' g s ((st1.step 1).member s).2∧w.grownBy w' (some g):=fun w h=>zrd w g s (st1.step 1) h hs (show st1.pos+1<=s.size by omega)
   have hp2:=hp1.2;clear hp1;generalize hhi:((st1.step 1).member s).1=hi at *;generalize hs3:((st1.step 1).member s).2=st3 at *;clear hhi hs3;replace HM3:=Zh HM3
   by_cases hlt:hi<lo
   .rw[if_pos hlt] at hE;have HE:=Zh hE;clear hE;go_wp2_with (first
     | (go_at_call 106;(with_reducible refine (HM.o).mono ?_);rintro e w2 ⟨rfl,r2,o2⟩;have b2:=b1.grown o2 yiw;obtain⟨c0,c1,c2,c3,c4⟩:=r2.cell;obtain⟨f0,f1,f2,f3,f4⟩:=r2.frozen)
     | (go_at_call 73;(with_reducible refine (zb2 _ g s st1 r2 hs).mono ?_);rintro e w3 ⟨rfl,n,rfl⟩;have r3:=((r2.drewN n).setPos (st1.pos+1)))
     | (go_at_call 106;refine (HM3.o _ r3).mono ?_;rintro e w4 ⟨rfl,r4,o4⟩;obtain⟨k0,k1,k2,k3,k4⟩:=r4.cell)
     | (go_at_call 93;(with_reducible refine (zfe _ g s st3 _ _ r4).mono ?_);rintro e w5 ⟨rfl,r5,o5⟩)
     | (go_at_call 107;(with_reducible refine (zfq lo hi _ yie yie yie yie).mono ?_);rintro e w6 ⟨rfl,hb6⟩;unfold setV;have b3:Box4 ((w2.drewN n).setCell ⟨g,1,none⟩ (.int .i64 ((st1.pos+1:Nat):Int))) w.heap.size za9:=b2.far hgb _;have b6:=((b3.grown o4 yiw).grown o5 yiw).stays hb6;have r6:=r5.stays hb6;obtain⟨l0,l1,l2,l3⟩:=b6.cell;obtain⟨m0,m1,m2,m3⟩:=b6.frozen))
    refine bodyPost_ret (v:=setV (zam lo hi)) ?_ rfl ⟨by rw[HE.o],?_,?_⟩
    .unfold setV;simp[results,Tryd.results101,go_sem,l0,l1,l2,l3]
    .rw[HE.o];exact r6.far4 (Ne.symm hgb) _ _ _ _
    .exact zab (zab (zab (zab (zay (zal (zal (zce (zap (zal hO1 o2) n) _) o4) o5) hb6) (yez _) _) (yez _) _) (yez _) _) (yez _) _
   .rw[if_neg hlt] at hE;have HE:=Zh hE;clear hE;go_wp2_with (first
     | (go_at_call 106;(with_reducible refine (HM.o).mono ?_);rintro e w2 ⟨rfl,r2,o2⟩;have b2:=b1.grown o2 yiw;obtain⟨c0,c1,c2,c3,c4⟩:=r2.cell;obtain⟨f0,f1,f2,f3,f4⟩:=r2.frozen)
     | (go_at_call 73;(with_reducible refine (zb2 _ g s st1 r2 hs).mono ?_);rintro e w3 ⟨rfl,n,rfl⟩;have r3:=((r2.drewN n).setPos (st1.pos+1)))
     | (go_at_call 106;refine (HM3.o _ r3).mono ?_;rintro e w4 ⟨rfl,r4,o4⟩;obtain⟨k0,k1,k2,k3,k4⟩:=r4.cell)
     | (go_at_call 107;(with_reducible refine (zfq lo hi _ yie yie yie yie).mono ?_);rintro e w6 ⟨rfl,hb6⟩;unfold setV;have b3:Box4 ((w2.drewN n).setCell ⟨g,1,none⟩ (.int .i64 ((st1.pos+1:Nat):Int))) w.heap.size za9:=b2.far hgb _;have b6:=(b3.grown o4 yiw).stays hb6;have r6:=r4.stays hb6;obtain⟨l0,l1,l2,l3⟩:=b6.cell;obtain⟨m0,m1,m2,m3⟩:=b6.frozen))
    refine bodyPost_ret (v:=setV (zam lo hi)) ?_ rfl ⟨by rw[HE.o],?_,?_⟩
    .unfold setV;simp[results,Tryd.results101,go_sem,l0,l1,l2,l3]
    .rw[HE.o];exact r6.far4 (Ne.symm hgb) _ _ _ _
    .exact zab (zab (zab (zab (zay (zal (zce (zap (zal hO1 o2) n) _) o4) hb6) (yez _) _) (yez _) _) (yez _) _) (yez _) _
  .have hE:=HE.o;rw[if_neg hp] at hE;clear HE;have HE:=Zh hE;clear hE;have hp':(st1.peek s==45)=false:=(by simp[hp]);clear hp;go_wp2_with (first
    | (go_at_call 106;(with_reducible refine (HM.o).mono ?_);rintro e w2 ⟨rfl,r2,o2⟩;have b2:=b1.grown o2 yiw)
    | (go_at_call 73;(with_reducible refine (zb2 _ g s st1 r2 hs).mono ?_);rintro e w3 ⟨rfl,n,rfl⟩)
    | (go_at_call 107;(with_reducible refine (zfq lo lo _ yie yie yie yie).mono ?_);rintro e w4 ⟨rfl,hb4⟩;unfold setV;have b4:=(show Box4 (w2.drewN n) w.heap.size za9 from b2).stays hb4;have r4:=(r2.drewN n).stays hb4;obtain⟨l0,l1,l2,l3⟩:=b4.cell;obtain⟨m0,m1,m2,m3⟩:=b4.frozen))
   refine bodyPost_ret (v:=setV (zam lo lo)) ?_ rfl ⟨by rw[HE.o],?_,?_⟩
   .unfold setV;simp[results,Tryd.results101,go_sem,l0,l1,l2,l3]
   .rw[HE.o];exact r4.far4 (Ne.symm hgb) _ _ _ _
   .exact zab (zab (zab (zab (zay (zap (zal hO1 o2) n) hb4) (yez _) _) (yez _) _) (yez _) _) (yez _) _
theorem yao (w:World) (g:Nat) (s:ByteArray) (st:St) (h:Rdr w g s st) (hs:s.size<=1000) (hpos:st.pos<=s.size):
 Calls Tryd.prog 101 #[.pointer (some ⟨g,0,none⟩)] w fun e w'=>e = .returned (setV (st.item s).1)∧Rdr w' g s (st.item s).2∧w.grownBy w' (some g):=by
 cases hw:st.wideHere s
 .exact zwl w g s st h hs hpos hw
 .have e:st.item s=(zar (bt s (st.pos+1):Int),st.step 2):=(by unfold St.item;rw[if_pos hw]);rw[e];exact zwk w g s st h hs hw
end
end Go.Proofs.YtipfgpfplakhiaaDoor
