import Derived.Test.YtgbdanddbgomhaaDoorMw7
set_option linter.unusedVariables false
set_option linter.unusedSimpArgs false
namespace Go.Proofs.YtgbdanddbgomhaaDoor
open Go Go.RowKit
section
attribute [local go_sem ↓] Go.wp_at_zero Go.wp_at_succ
namespace St
def wideHere (s:ByteArray) (st:St):Bool:=st.peek s==92&&decide (st.pos+1<s.size)&&isWide (bt s (st.pos+1):Int)
def item (s:ByteArray) (st:St):(Nat->Bool)×St:=
 if st.wideHere s=true then (wideP (bt s (st.pos+1):Int),st.step 2) else
 let lo:=(st.member s).1
 let st1:=(st.member s).2
 if st1.peek s=45 then
   let hi:=((st1.step 1).member s).1
   let st3:=((st1.step 1).member s).2
   (rangeP lo hi,if hi<lo then st3.fail ((st3.pos:Int)-1) 2 else st3)
 else (rangeP lo lo,st1)
end St
theorem zff (s:ByteArray) (st:St):0<=(st.member s).1∧(st.member s).1<=255:=by
 have h1:=ze8 s st;have h2:∀ st':St,0<=(st'.escaped s).1∧(st'.escaped s).1<=255:=by
   intro st';have h:=ze8 s st';unfold St.escaped;simp only;split
   . simp
   . split
     . simp
     . split
       . rename_i h3;have:=zd5 _ _ h3;simp only;omega
       . simp
 unfold St.member;simp only;split
 . exact h2 _
 . simp only;omega
theorem zgt (s:ByteArray) (st:St) (h:st.pos<=s.size):(st.member s).2.pos<=s.size∧st.pos<=(st.member s).2.pos:=by
 have h1:=zby s st h;unfold St.member;simp only;split
 . split
   . have:=zde s ((st.next s).2.fail (((st.next s).2.pos:Int)-1) 2) (by rw[zey];exact h1.1);rw[zey] at this;omega
   . have:=zde s (st.next s).2 h1.1;omega
 . simp only;split
   . rw[zey];exact h1
   . exact h1
set_option maxHeartbeats 400000 in
theorem zd1 (w:World) (g:Nat) (s:ByteArray) (st:St) (h:Rdr w g s st) (hs:s.size<=1000) (c:Int) (hc:st.peek s=c):
   Calls Tryd.prog 91 #[.pointer (some ⟨g,0,none⟩)] w fun e w'=>e = .returned (.int .i64 c)∧∃ n,w'=w.drewN n:=by
 rw[←hc];exact zai w g s st h hs
set_option maxRecDepth 20000 in
set_option maxHeartbeats 4000000 in
theorem zr0 (w:World) (g:Nat) (s:ByteArray) (st:St) (h:Rdr w g s st) (hs:s.size<=1000) (hw:st.wideHere s=true):
   Calls Tryd.prog 133 #[.pointer (some ⟨g,0,none⟩)] w fun e w'=>e = .returned (setV (wideP (bt s (st.pos+1):Int)))∧Rdr w' g s (st.step 2)∧w.grownBy w' (some g):=by
 unfold St.wideHere at hw;simp only[Bool.and_eq_true,beq_iff_eq,decide_eq_true_eq] at hw;obtain⟨⟨hp,hlt⟩,hwd⟩:=hw;have HP:=Zh hp;clear hp;have hbe:=zw3 s (st.pos+1) hlt;have b0:=Box4.new0 w;have r0:=h.alloc (.cells #[.int .u64 0,.int .u64 0,.int .u64 0,.int .u64 0] 26);have hO:w.grownBy (w.alloc (.cells #[.int .u64 0,.int .u64 0,.int .u64 0,.int .u64 0] 26)) (some g):=zak (zax _ _) _;have hgw:=h.lt;generalize hw0:w.alloc (.cells #[.int .u64 0,.int .u64 0,.int .u64 0,.int .u64 0] 26)=w0 at *;have HW:=Zh hw0;clear hw0;obtain⟨c0,c1,c2,c3,c4⟩:=r0.cell;have k0:(0:Int)<=(st.pos:Int)+1:=(by omega);have k1:(st.pos:Int)+1<(s.size:Int):=(by omega);have k2:IntKind.i64.wrap ((st.pos:Int)+1)=(st.pos:Int)+1:=IntWalk.i64_in _ (by omega);have k3:((st.pos:Int)+1).toNat=st.pos+1:=(by omega);have hd:decide ((st.pos:Int)+1<(s.size:Int))=true:=(by simp;omega);go_enter Tryd.func133,Tryd.ntmps133;go_wp2_with fail;rw[HW.out];clear HW;go_quiet ((go_at_call 91;exact Calls.quiet_of (zd1 _ g s st (by first | exact r0 | exact r0.drewN _) hs 92 HP.out)));go_wp2_with fail;generalize hw1:w0.drewN nq=w1;replace b0:Box4 w1 w.heap.size noneP:=by rw[←hw1];exact b0
 replace r0:Rdr w1 g s st:=by rw[←hw1];exact r0
 replace hO:w.grownBy w1 (some g):=by rw[←hw1];exact zab hO _
 clear hw1 c0 c1 c2 c3 c4;obtain⟨c0,c1,c2,c3,c4⟩:=r0.cell;have k4:IntKind.i64.wrap (((s[st.pos+1]'hlt).toNat:Nat):Int)=(bt s (st.pos+1):Int):=by
   have:=UInt8.toNat_lt (s[st.pos+1]'hlt);rw[hbe,IntWalk.i64_in _ (by omega)]
 have hgw1:g<w1.heap.size:=r0.lt;clear hbe;refine wp_region_noPanic ?_
 first | go_region_held (fun w'=>w'.cell? ⟨g,0,none⟩=some (.string s)∧w'.cell? ⟨g,1,none⟩=some (.int .i64 (st.pos:Int)))
     (first | exact⟨c0,c1⟩ | (go_split_ands;refine⟨?_,?_⟩ <;> first | with_reducible assumption | with_reducible exact za2 ‹_› ‹_›) | with_reducible exact⟨(r2.alloc _).cell.1,(r2.alloc _).cell.2.1⟩ | with_reducible exact⟨(r2.far4 (g':=w1.heap.size) (by omega) _ _ _ _).cell.1,(r2.far4 (g':=w1.heap.size) (by omega) _ _ _ _).cell.2.1⟩ | go_keep)
     (first | (go_at_call 129;(with_reducible refine (zl6 _ _).mono ?_);rintro e w2 ⟨rfl,hb2⟩;unfold setV;have r2:Rdr w2 g s st:=(by first | with_reducible exact r0.drew.stays hb2 | with_reducible exact (r0.drew.alloc _).stays hb2 | with_reducible exact (r0.alloc _).drew.stays hb2);(try (have bx:Box4 w2 w1.heap.size noneP:=(by first | with_reducible exact (Box4.new0 w1.drew).stays hb2 | with_reducible exact (Box4.new0 w1).drew.stays hb2);obtain⟨x0,x1,x2,x3⟩:=bx.cell;obtain⟨y0,y1,y2,y3⟩:=bx.frozen))))
       | fail
 all_goals try
   have bA:=bx.put (wideP (bt s (st.pos+1):Int));have nA:w.heap.size≠w1.heap.size:=(by have:=b0.lt;omega);have gA:g≠w1.heap.size:=(by omega);have bZ:Box4 (put4 w2 w1.heap.size (wideP (bt s (st.pos+1):Int))) w.heap.size noneP:=(show Box4 w2 w.heap.size noneP by first | with_reducible exact (b0.drew.alloc _).stays hb2 | with_reducible exact (b0.alloc _).drew.stays hb2).putFar nA _;have rA:=r2.put4 gA (wideP (bt s (st.pos+1):Int));have oA:w.grownBy (put4 w2 w1.heap.size (wideP (bt s (st.pos+1):Int))) (some g):=zbu (by first | with_reducible exact zaf (zak (zbv hO) _) hb2 | with_reducible exact zaf (zbv (zak hO _)) hb2) hO.size _;change NoPanic _ _ _ (put4 w2 w1.heap.size (wideP (bt s (st.pos+1):Int)));generalize put4 w2 w1.heap.size (wideP (bt s (st.pos+1):Int))=w3 at *;generalize w1.heap.size=gx at *
 all_goals try
   fail_if_success (have:=oA)
   have rA:=r2.alloc (.cells #[.int .u64 (word (wideP (bt s (st.pos+1):Int)) 0),.int .u64 (word (wideP (bt s (st.pos+1):Int)) 1),.int .u64 (word (wideP (bt s (st.pos+1):Int)) 2),.int .u64 (word (wideP (bt s (st.pos+1):Int)) 3)] 26);have bA:=Box4.new w2 (wideP (bt s (st.pos+1):Int));have bZ:=(b0.drew.stays hb2).alloc (.cells #[.int .u64 (word (wideP (bt s (st.pos+1):Int)) 0),.int .u64 (word (wideP (bt s (st.pos+1):Int)) 1),.int .u64 (word (wideP (bt s (st.pos+1):Int)) 2),.int .u64 (word (wideP (bt s (st.pos+1):Int)) 3)] 26);have oA:=zak (zaf (zbv hO) hb2) (.cells #[.int .u64 (word (wideP (bt s (st.pos+1):Int)) 0),.int .u64 (word (wideP (bt s (st.pos+1):Int)) 1),.int .u64 (word (wideP (bt s (st.pos+1):Int)) 2),.int .u64 (word (wideP (bt s (st.pos+1):Int)) 3)] 26);have gA:g≠w2.heap.size:=(by have:=r2.lt;omega);have nA:w.heap.size≠w2.heap.size:=(by have:=(b0.drew.stays hb2).lt;omega);generalize w2.alloc (.cells #[.int .u64 (word (wideP (bt s (st.pos+1):Int)) 0),.int .u64 (word (wideP (bt s (st.pos+1):Int)) 1),.int .u64 (word (wideP (bt s (st.pos+1):Int)) 2),.int .u64 (word (wideP (bt s (st.pos+1):Int)) 3)] 26)=w3 at *;generalize w2.heap.size=gx at *
 all_goals
   refine NoPanic.normal ?_;have hNg:w.heap.size≠g:=(by omega);clear hb2 r2 b0 r0 hO c0 c1 c2 c3 c4 hd HP;obtain⟨c0,c1,c2,c3,c4⟩:=rA.cell;obtain⟨f0,f1,f2,f3,f4⟩:=rA.frozen;obtain⟨d0,d1,d2,d3⟩:=bA.cell;obtain⟨l0,l1,l2,l3⟩:=bZ.cell;obtain⟨m0,m1,m2,m3⟩:=bZ.frozen;go_wp2;refine bodyPost_ret (v:=setV (wideP (bt s (st.pos+1):Int))) ?_ rfl ⟨rfl,?_,?_⟩
   . unfold setV;simp[results,Tryd.results133,go_sem,l0,l1,l2,l3,hNg,Ne.symm hNg]
   . exact (rA.setPos (st.pos+2)).far4 (Ne.symm hNg) _ _ _ _
   . exact za4 (za4 (za4 (za4 (zb8 oA _) (Nat.le_refl _) _) (Nat.le_refl _) _) (Nat.le_refl _) _) (Nat.le_refl _) _
end
end Go.Proofs.YtgbdanddbgomhaaDoor
