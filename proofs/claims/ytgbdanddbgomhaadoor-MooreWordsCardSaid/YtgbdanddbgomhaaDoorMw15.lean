import Derived.Test.YtgbdanddbgomhaaDoorMw9
import Derived.Deep.DeepCutAuto
set_option linter.unusedVariables false
set_option linter.unusedSimpArgs false
namespace Go.Proofs.YtgbdanddbgomhaaDoor
open Go Go.RowKit
section
attribute [local go_sem ↓] Go.wp_at_zero Go.wp_at_succ
def St.escHere (s:ByteArray) (st:St):Bool:=st.peek s==92&&decide (st.pos+1<s.size)
set_option maxRecDepth 20000 in
set_option maxHeartbeats 4000000 in
theorem zr1 (w:World) (g:Nat) (s:ByteArray) (st:St) (h:Rdr w g s st) (hs:s.size<=1000) (hpos:st.pos<=s.size) (hw:st.wideHere s=false):
   Calls Tryd.prog 133 #[.pointer (some ⟨g,0,none⟩)] w fun e w'=>e = .returned (setV (st.item s).1)∧Rdr w' g s (st.item s).2∧w.grownBy w' (some g):=by
 have b0:=Box4.new0 w;have r0:=h.alloc (.cells #[.int .u64 0,.int .u64 0,.int .u64 0,.int .u64 0] 26);have hO:w.grownBy (w.alloc (.cells #[.int .u64 0,.int .u64 0,.int .u64 0,.int .u64 0] 26)) (some g):=zak (zax _ _) _;have hgw:=h.lt;generalize hw0:w.alloc (.cells #[.int .u64 0,.int .u64 0,.int .u64 0,.int .u64 0] 26)=w0 at *;have HW:=Zh hw0;have HH:=Zh hw;clear hw0 hw;go_enter Tryd.func133,Tryd.ntmps133;go_wp2_with fail;rw[HW.out];clear HW;go_cut [22] (fun s22 wx=>s22 = .bool (st.escHere s)∧Rdr wx g s st∧Box4 wx w.heap.size noneP∧w.grownBy wx (some g))
 case first =>
   obtain⟨c0,c1,c2,c3,c4⟩:=r0.cell
   by_cases hp:st.peek s=92
   . have HP:=Zh hp
     by_cases hlt:st.pos+1<s.size
     . have HS:Hid (st.escHere s=true):=by show St.escHere s st=true;unfold St.escHere;simp[hp,hlt]
       clear hp;have k0:(0:Int)<=(st.pos:Int)+1:=(by omega);have k1:(st.pos:Int)+1<(s.size:Int):=(by omega);have k2:IntKind.i64.wrap ((st.pos:Int)+1)=(st.pos:Int)+1:=IntWalk.i64_in _ (by omega);have k3:((st.pos:Int)+1).toNat=st.pos+1:=(by omega);have hd:decide ((st.pos:Int)+1<(s.size:Int))=true:=(by simp;omega);go_quiet ((go_at_call 91;exact Calls.quiet_of (zd1 _ g s st (by first | exact r0 | exact r0.drewN _) hs 92 HP.out)));go_wp2_with fail;go_meet;exact⟨by rw[HS.out],r0.drewN _,b0,zab hO _⟩
     . have HS:Hid (st.escHere s=false):=by show St.escHere s st=false;unfold St.escHere;simp[hlt]
       clear hp;have k2:IntKind.i64.wrap ((st.pos:Int)+1)=(st.pos:Int)+1:=IntWalk.i64_in _ (by omega);have hd:decide ((st.pos:Int)+1<(s.size:Int))=false:=(by simp;omega);go_quiet ((go_at_call 91;exact Calls.quiet_of (zd1 _ g s st (by first | exact r0 | exact r0.drewN _) hs 92 HP.out)));go_wp2_with fail;go_meet;exact⟨by rw[HS.out],r0.drewN _,b0,zab hO _⟩
   . have hp':(st.peek s==92)=false:=(by simp[hp]);have HS:Hid (st.escHere s=false):=by show St.escHere s st=false;unfold St.escHere;simp[hp]
     clear hp;go_quiet ((go_at_call 91;exact Calls.quiet_of (zd1 _ g s st (by first | exact r0 | exact r0.drewN _) hs _ rfl)));go_wp2_with fail;go_meet;exact⟨by rw[HS.out],r0.drewN _,b0,zab hO _⟩
 case rest =>
 clear r0 b0 hO;obtain⟨hs22,r0,b0,hO⟩:=hcut;generalize wc=w1 at *;go_upto_if 22 with fail
 go_cut [] (fun wx=>Rdr wx g s st∧Box4 wx w.heap.size noneP∧w.grownBy wx (some g))
 case first =>
   cases hesc:st.escHere s
   . rw[hesc] at hs22;subst hs22;go_wp2_with fail;go_meet;exact⟨r0,b0,hO⟩
   . rw[hesc] at hs22;subst hs22;have he2:=hesc;unfold St.escHere at he2;simp only[Bool.and_eq_true,beq_iff_eq,decide_eq_true_eq] at he2;obtain⟨hp,hlt⟩:=he2;have hwd:isWide (bt s (st.pos+1):Int)=false:=by
       have:=HH.out;unfold St.wideHere at this
       simpa [hp,hlt] using this
     clear hp hesc;have hbe:=zw3 s (st.pos+1) hlt;have k0:(0:Int)<=(st.pos:Int)+1:=(by omega);have k1:(st.pos:Int)+1<(s.size:Int):=(by omega);have k2:IntKind.i64.wrap ((st.pos:Int)+1)=(st.pos:Int)+1:=IntWalk.i64_in _ (by omega);have k3:((st.pos:Int)+1).toNat=st.pos+1:=(by omega);go_wp2_with fail;obtain⟨c0,c1,c2,c3,c4⟩:=r0.cell;have k4:IntKind.i64.wrap (((s[st.pos+1]'hlt).toNat:Nat):Int)=(bt s (st.pos+1):Int):=by
       have:=UInt8.toNat_lt (s[st.pos+1]'hlt);rw[hbe,IntWalk.i64_in _ (by omega)]
     have hgw1:g<w1.heap.size:=r0.lt;clear hbe;refine wp_region_noPanic ?_
     first | go_region_held (fun w'=>w'.cell? ⟨g,0,none⟩=some (.string s)∧w'.cell? ⟨g,1,none⟩=some (.int .i64 (st.pos:Int)))
       (first | exact⟨c0,c1⟩ | (go_split_ands;refine⟨?_,?_⟩ <;> first | with_reducible assumption | with_reducible exact za2 ‹_› ‹_›) | with_reducible exact⟨(r2.alloc _).cell.1,(r2.alloc _).cell.2.1⟩ | with_reducible exact⟨(r2.far4 (g':=w1.heap.size) (by omega) _ _ _ _).cell.1,(r2.far4 (g':=w1.heap.size) (by omega) _ _ _ _).cell.2.1⟩ | go_keep)
       (first | (go_at_call 129;(with_reducible refine (zl6 _ _).mono ?_);rintro e w2 ⟨rfl,hb2⟩;unfold setV;have r2:Rdr w2 g s st:=(by first | with_reducible exact r0.drew.stays hb2 | with_reducible exact (r0.drew.alloc _).stays hb2 | with_reducible exact (r0.alloc _).drew.stays hb2);(try (have bx:Box4 w2 w1.heap.size noneP:=(by first | with_reducible exact (Box4.new0 w1.drew).stays hb2 | with_reducible exact (Box4.new0 w1).drew.stays hb2);obtain⟨x0,x1,x2,x3⟩:=bx.cell;obtain⟨y0,y1,y2,y3⟩:=bx.frozen))))
           | fail
     all_goals try
       have nA:w.heap.size≠w1.heap.size:=(by have:=b0.lt;omega);have gA:g≠w1.heap.size:=(by omega);have bZ:Box4 (put4 w2 w1.heap.size (wideP (bt s (st.pos+1):Int))) w.heap.size noneP:=(show Box4 w2 w.heap.size noneP by first | with_reducible exact (b0.drew.alloc _).stays hb2 | with_reducible exact (b0.alloc _).drew.stays hb2).putFar nA _;have rA:=r2.put4 gA (wideP (bt s (st.pos+1):Int));have oA:w.grownBy (put4 w2 w1.heap.size (wideP (bt s (st.pos+1):Int))) (some g):=zbu (by first | with_reducible exact zaf (zak (zbv hO) _) hb2 | with_reducible exact zaf (zbv (zak hO _)) hb2) hO.size _;change NoPanic _ _ _ (put4 w2 w1.heap.size (wideP (bt s (st.pos+1):Int)));generalize put4 w2 w1.heap.size (wideP (bt s (st.pos+1):Int))=w3 at *
     all_goals try
       fail_if_success (have:=oA)
       have rA:=r2.alloc (.cells #[.int .u64 (word (wideP (bt s (st.pos+1):Int)) 0),.int .u64 (word (wideP (bt s (st.pos+1):Int)) 1),.int .u64 (word (wideP (bt s (st.pos+1):Int)) 2),.int .u64 (word (wideP (bt s (st.pos+1):Int)) 3)] 26);have bZ:=(b0.drew.stays hb2).alloc (.cells #[.int .u64 (word (wideP (bt s (st.pos+1):Int)) 0),.int .u64 (word (wideP (bt s (st.pos+1):Int)) 1),.int .u64 (word (wideP (bt s (st.pos+1):Int)) 2),.int .u64 (word (wideP (bt s (st.pos+1):Int)) 3)] 26);have oA:=zak (zaf (zbv hO) hb2) (.cells #[.int .u64 (word (wideP (bt s (st.pos+1):Int)) 0),.int .u64 (word (wideP (bt s (st.pos+1):Int)) 1),.int .u64 (word (wideP (bt s (st.pos+1):Int)) 2),.int .u64 (word (wideP (bt s (st.pos+1):Int)) 3)] 26);generalize w2.alloc (.cells #[.int .u64 (word (wideP (bt s (st.pos+1):Int)) 0),.int .u64 (word (wideP (bt s (st.pos+1):Int)) 1),.int .u64 (word (wideP (bt s (st.pos+1):Int)) 2),.int .u64 (word (wideP (bt s (st.pos+1):Int)) 3)] 26)=w3 at *
     all_goals
       refine NoPanic.normal ?_;clear hb2 r2 b0 r0 hO c0 c1 c2 c3 c4;go_wp2_with fail;go_meet;exact⟨rA,bZ,oA⟩
 case rest =>
   obtain⟨r1,b1,hO1⟩:=hcut;have hm1:=zgt s st hpos;have hl1:=zff s st;have HE:Hid (st.item s=if (st.member s).2.peek s=45 then (rangeP (st.member s).1 (((st.member s).2.step 1).member s).1,if (((st.member s).2.step 1).member s).1<(st.member s).1 then (((st.member s).2.step 1).member s).2.fail (((((st.member s).2.step 1).member s).2.pos:Int)-1) 2 else (((st.member s).2.step 1).member s).2) else (rangeP (st.member s).1 (st.member s).1,(st.member s).2)):=by
     show St.item s st=_
     unfold St.item;rw[if_neg (by rw[HH.out];simp)]
   have HM:=Zh (zlx wc g s st r1 hs hpos);generalize hlo:(st.member s).1=lo at *;generalize hs1:(st.member s).2=st1 at *;clear hlo hs1 HH;have hgb:w.heap.size≠g:=by omega
   by_cases hp:st1.peek s=45
   . have hp1:=zar s st1 (by omega);have hE:=HE.out;rw[if_pos hp] at hE;clear HE;have hp':(st1.peek s==45)=true:=(by simp[hp]);clear hp;have hm3:=zgt s (st1.step 1) (show st1.pos+1<=s.size by omega);have hl3:=zff s (st1.step 1);have HM3:∀ w,Rdr w g s (st1.step 1)->Calls Tryd.prog 136 #[.pointer (some ⟨g,0,none⟩)] w fun e w'=>e = .returned (.int .u8 ((st1.step 1).member s).1)∧Rdr w' g s ((st1.step 1).member s).2∧w.grownBy w' (some g):=fun w h=>zlx w g s (st1.step 1) h hs (show st1.pos+1<=s.size by omega)
     have hp2:=hp1.2;clear hp1;generalize hhi:((st1.step 1).member s).1=hi at *;generalize hs3:((st1.step 1).member s).2=st3 at *;clear hhi hs3;replace HM3:=Zh HM3
     by_cases hlt:hi<lo
     . rw[if_pos hlt] at hE;have HE:=Zh hE;clear hE;go_wp2_with (first
         | (go_at_call 136;(with_reducible refine (HM.out).mono ?_);rintro e w2 ⟨rfl,r2,o2⟩;have b2:=b1.grown o2 (by simpa using hgb);obtain⟨c0,c1,c2,c3,c4⟩:=r2.cell;obtain⟨f0,f1,f2,f3,f4⟩:=r2.frozen)
         | (go_at_call 91;(with_reducible refine (zai _ g s st1 r2 hs).mono ?_);rintro e w3 ⟨rfl,n,rfl⟩;have r3:=((r2.drewN n).setPos (st1.pos+1)))
         | (go_at_call 136;refine (HM3.out _ r3).mono ?_;rintro e w4 ⟨rfl,r4,o4⟩;obtain⟨k0,k1,k2,k3,k4⟩:=r4.cell)
         | (go_at_call 121;(with_reducible refine (zct _ g s st3 _ _ r4).mono ?_);rintro e w5 ⟨rfl,r5,o5⟩)
         | (go_at_call 137;(with_reducible refine (zd0 lo hi _ (by omega) (by omega) (by omega) (by omega)).mono ?_);rintro e w6 ⟨rfl,hb6⟩;unfold setV;have b3:Box4 ((w2.drewN n).setCell ⟨g,1,none⟩ (.int .i64 ((st1.pos+1:Nat):Int))) w.heap.size noneP:=b2.far hgb _;have b6:=((b3.grown o4 (by simpa using hgb)).grown o5 (by simpa using hgb)).stays hb6;have r6:=r5.stays hb6;obtain⟨l0,l1,l2,l3⟩:=b6.cell;obtain⟨m0,m1,m2,m3⟩:=b6.frozen))
       refine bodyPost_ret (v:=setV (rangeP lo hi)) ?_ rfl ⟨by rw[HE.out],?_,?_⟩
       . unfold setV;simp[results,Tryd.results133,go_sem,l0,l1,l2,l3]
       . rw[HE.out];exact r6.far4 (Ne.symm hgb) _ _ _ _
       . exact za4 (za4 (za4 (za4 (zaf (za7 (za7 (zb8 (zab (za7 hO1 o2) n) _) o4) o5) hb6) (Nat.le_refl _) _) (Nat.le_refl _) _) (Nat.le_refl _) _) (Nat.le_refl _) _
     . rw[if_neg hlt] at hE;have HE:=Zh hE;clear hE;go_wp2_with (first
         | (go_at_call 136;(with_reducible refine (HM.out).mono ?_);rintro e w2 ⟨rfl,r2,o2⟩;have b2:=b1.grown o2 (by simpa using hgb);obtain⟨c0,c1,c2,c3,c4⟩:=r2.cell;obtain⟨f0,f1,f2,f3,f4⟩:=r2.frozen)
         | (go_at_call 91;(with_reducible refine (zai _ g s st1 r2 hs).mono ?_);rintro e w3 ⟨rfl,n,rfl⟩;have r3:=((r2.drewN n).setPos (st1.pos+1)))
         | (go_at_call 136;refine (HM3.out _ r3).mono ?_;rintro e w4 ⟨rfl,r4,o4⟩;obtain⟨k0,k1,k2,k3,k4⟩:=r4.cell)
         | (go_at_call 137;(with_reducible refine (zd0 lo hi _ (by omega) (by omega) (by omega) (by omega)).mono ?_);rintro e w6 ⟨rfl,hb6⟩;unfold setV;have b3:Box4 ((w2.drewN n).setCell ⟨g,1,none⟩ (.int .i64 ((st1.pos+1:Nat):Int))) w.heap.size noneP:=b2.far hgb _;have b6:=(b3.grown o4 (by simpa using hgb)).stays hb6;have r6:=r4.stays hb6;obtain⟨l0,l1,l2,l3⟩:=b6.cell;obtain⟨m0,m1,m2,m3⟩:=b6.frozen))
       refine bodyPost_ret (v:=setV (rangeP lo hi)) ?_ rfl ⟨by rw[HE.out],?_,?_⟩
       . unfold setV;simp[results,Tryd.results133,go_sem,l0,l1,l2,l3]
       . rw[HE.out];exact r6.far4 (Ne.symm hgb) _ _ _ _
       . exact za4 (za4 (za4 (za4 (zaf (za7 (zb8 (zab (za7 hO1 o2) n) _) o4) hb6) (Nat.le_refl _) _) (Nat.le_refl _) _) (Nat.le_refl _) _) (Nat.le_refl _) _
   . have hE:=HE.out;rw[if_neg hp] at hE;clear HE;have HE:=Zh hE;clear hE;have hp':(st1.peek s==45)=false:=(by simp[hp]);clear hp;go_wp2_with (first
         | (go_at_call 136;(with_reducible refine (HM.out).mono ?_);rintro e w2 ⟨rfl,r2,o2⟩;have b2:=b1.grown o2 (by simpa using hgb))
         | (go_at_call 91;(with_reducible refine (zai _ g s st1 r2 hs).mono ?_);rintro e w3 ⟨rfl,n,rfl⟩)
         | (go_at_call 137;(with_reducible refine (zd0 lo lo _ (by omega) (by omega) (by omega) (by omega)).mono ?_);rintro e w4 ⟨rfl,hb4⟩;unfold setV;have b4:=(show Box4 (w2.drewN n) w.heap.size noneP from b2).stays hb4;have r4:=(r2.drewN n).stays hb4;obtain⟨l0,l1,l2,l3⟩:=b4.cell;obtain⟨m0,m1,m2,m3⟩:=b4.frozen))
     refine bodyPost_ret (v:=setV (rangeP lo lo)) ?_ rfl ⟨by rw[HE.out],?_,?_⟩
     . unfold setV;simp[results,Tryd.results133,go_sem,l0,l1,l2,l3]
     . rw[HE.out];exact r4.far4 (Ne.symm hgb) _ _ _ _
     . exact za4 (za4 (za4 (za4 (zaf (zab (za7 hO1 o2) n) hb4) (Nat.le_refl _) _) (Nat.le_refl _) _) (Nat.le_refl _) _) (Nat.le_refl _) _
theorem zun (w:World) (g:Nat) (s:ByteArray) (st:St) (h:Rdr w g s st) (hs:s.size<=1000) (hpos:st.pos<=s.size):
   Calls Tryd.prog 133 #[.pointer (some ⟨g,0,none⟩)] w fun e w'=>e = .returned (setV (st.item s).1)∧Rdr w' g s (st.item s).2∧w.grownBy w' (some g):=by
 cases hw:st.wideHere s
 . exact zr1 w g s st h hs hpos hw
 . have e:st.item s=(wideP (bt s (st.pos+1):Int),st.step 2):=(by unfold St.item;rw[if_pos hw]);rw[e];exact zr0 w g s st h hs hw
end
end Go.Proofs.YtgbdanddbgomhaaDoor
