import Derived.Test.YtgbdanddbgomhaaGreatDoorMv37
set_option linter.unusedVariables false
set_option linter.unusedSimpArgs false
namespace Go.Proofs.YtgbdanddbgomhaaGreatDoor
open Go Go.RowKit
section
attribute [local go_sem ↓] Go.wp_at_zero Go.wp_at_succ
section
variable {w wx wy:World} {g:Nat} {s:ByteArray} {st:St} {B:Nat} {v:Value} {l:List T}
theorem Row.lt (h:Row w B v l):∀ b,v.ownBlock=some b->B<=b∧b<w.heap.size:=by
 obtain⟨ks,h1,h2,h3⟩:=h;exact h2.lt
theorem Mid.row {row:Option Nat} (h:Mid w g s st wx) (hg:wx.grownBy wy row) (hr:∀ b,row=some b->w.heap.size<b):Mid w g s st wy:=by
 have hlt:=h.lt;refine⟨h.lt,?_,h.box.grown hg fun e=>by have:=hr _ e.symm;omega,⟨hg.os.trans h.only.os,hg.tape.trans h.only.tape,hg.output.trans h.only.output,Nat.le_trans h.only.size hg.size,fun b hb hne=>(hg.block b (Nat.lt_of_lt_of_le hb h.only.size) fun e=>by have:=hr _ e.symm;omega).trans (h.only.block b hb hne)⟩⟩;have hb:=hg.block g h.rdr.lt fun e=>by have:=hr _ e.symm;omega
 exact hb.trans h.rdr
theorem zcb (w:World) (t:T) (k:Value):∀ (j:Nat) u,(nodeC t k)[j]?=some u->(w.alloc (.cells #[.int .i64 t.op,.int .u64 (word t.set 0),.int .u64 (word t.set 1),.int .u64 (word t.set 2),.int .u64 (word t.set 3),.int .i64 t.lo,.int .i64 t.hi,k] 41)).cell? ((⟨w.heap.size,0,none⟩:Addr).add j)=some u:=by
 intro j u hu;have hj:j<8:=by
   have:=List.getElem?_eq_some_iff.1 hu
   simpa [nodeC] using this.1
 have hadd:(⟨w.heap.size,0,none⟩:Addr).add j=⟨w.heap.size,j,none⟩:=by unfold Addr.add;split <;> simp_all
 rw[hadd,cell_of_row _ _ j _ 41 (0,0) (heap_alloc_new w _),←hu];simp[nodeC]
theorem zde {t:T} {k:Value} (hrow:Row wx B v l) (hB:B<=wx.heap.size) (ht:Tree w (fun b=>wx.heap.size<=b) t k):Tree w (fun b=>B<=b∧some b≠v.ownBlock) t k:=
 ht.weak fun b hb _=>⟨by omega,fun e=>by have:=hrow.lt b e.symm;omega⟩
end
def Pieces (g:Nat) (s:ByteArray) (deep:Option (Nat->R T)) (n:Int):Prop:=∀ w st',Rdr w g s st'->st'.opn=n->st'.pos<=s.size->
 Calls Tryz.prog 93 #[.pointer (some ⟨g,0,none⟩)] w (RetNode w g s (cPiece s deep st'.pos) st')
theorem zmx {g:Nat} {s:ByteArray} {deep:Option (Nat->R T)} {n:Int} (hs:s.size<=1000) (hd:Deep g s deep n):Pieces g s deep n:=
 fun w st' h1 h2 h3=>zrh w g s st' h1 hs h3 deep (h2▸hd)
set_option maxRecDepth 20000 in
set_option maxHeartbeats 4000000 in
theorem part_p (w:World) (g:Nat) (s:ByteArray) (st:St) (h:Rdr w g s st) (hs:s.size<=1000) (hpos:st.pos<=s.size) (hopn:0<=st.opn∧st.opn<=20) (deep:Option (Nat->R T)) (hd:Deep g s deep st.opn) (hfw:∀ f,deep=some f->∀ p,p<=s.size->Fwd s p (f p)):
   Calls Tryz.prog 71 #[.pointer (some ⟨g,0,none⟩)] w (RetNode w g s (cPart s deep (st.opn==0) st.pos) st):=by
 have mid:=Mid.start h;have HA:=zmx hs hd;unfold Pieces at HA;replace HA:=Zh HA;have HF:=Zh (zdy s deep hfw (st.opn==0));have hgw:=h.lt;have hgb:g≠w.heap.size:=(by omega);have hgb':w.heap.size≠g:=(by omega);generalize hw0:w.alloc (.cells #[.int .i64 0,.int .u64 0,.int .u64 0,.int .u64 0,.int .u64 0,.int .i64 0,.int .i64 0,.slice none 0 0] 41)=w0 at mid;have HW:=Zh hw0;clear hw0 hd hfw;go_enter Tryz.func71,Tryz.ntmps71;go_wp2_with fail;rw[HW.out];clear HW;go_wp2_with (go_at_call 93;(with_reducible refine (HA.out _ _ mid.rdr rfl hpos).mono ?_);rintro e w1 ⟨t1,k1,st1,rfl,ht1,r1,o1,hr1⟩;obtain⟨A,tn,tc,rfl⟩:=ht1.form;unfold nodeV;have mid1:=mid.next o1 r1;have hw1:=mid1.new);have hrow:=Row.new w1 (w.heap.size+1) t1 (.slice A tn tc) hw1 (ht1.weak fun b hb _=>by have:=mid.new;omega);have hgo:=Zh (Going.start (step:=partStep s deep (st.opn==0)) (f:=fun t=>[t]) hr1);generalize hm0:(if st1.bad=0 then s.size+1 else 0)=m0 at hgo;have hm1:m0<=s.size+1:=by rw[←hm0];split <;> omega
 have mid2:=mid1.alloc (.cells #[.int .i64 t1.op,.int .u64 (word t1.set 0),.int .u64 (word t1.set 1),.int .u64 (word t1.set 2),.int .u64 (word t1.set 3),.int .i64 t1.lo,.int .i64 t1.hi,(.slice A tn tc)] 41);generalize w1.alloc (.cells #[.int .i64 t1.op,.int .u64 (word t1.set 0),.int .u64 (word t1.set 1),.int .u64 (word t1.set 2),.int .u64 (word t1.set 3),.int .i64 t1.lo,.int .i64 t1.hi,(.slice A tn tc)] 41)=w2 at *;clear hm0 mid mid1 r1 o1 hr1 ht1;go_loopg [3] m0 (fun m v wr=>∃ l st2,Mid w g s st2 wr∧Row wr (w.heap.size+1) v l∧0<l.length∧l.length+m<=s.size+2∧Going s (thenR (cPiece s deep st.pos) fun b p=>loopR (partStep s deep (st.opn==0)) (s.size+1) [b] p) (partStep s deep (st.opn==0)) st m l st2)
 case atStart=>exact⟨[t1],st1,mid2,hrow,by simp,by simp;omega,hgo.out⟩
 case round =>
   clear mid2 hrow hgo hm1;obtain⟨l,st2,mid,hrow,hl0,hlm,hgo⟩:=hrel;have hp2:=hgo.pos;have ho2:=hgo.opn
   by_cases hgoes:0<=st2.peek s∧st2.peek s≠124∧(st2.peek s≠41∨st2.opn=0)
   . obtain⟨h1,h2,h3⟩:=hgoes;have hb2:=(zaj s st2 h1).1;have hlt:=(zaj s st2 h1).2;have hpk:=zbq s st2 hb2 hlt;have hst:partStep s deep (st.opn==0) l st2.pos=some (thenR (cPiece s deep st2.pos) fun t p => .ok (l++[t],p)):=by
       unfold partStep;rw[if_pos ⟨hlt,by omega,by rcases h3 with h3|h3;exact .inl (by omega);exact .inr (by simpa [ho2] using h3)⟩]
     have HST:=Zh hst;have HGO:=Zh hgo;have HO2:=Zh ho2;have HB2:=Zh hb2;have e1:decide (0<=st2.peek s)=true:=(by simpa using h1);have e2:(st2.peek s != 124)=true:=(by simpa using h2);have hll:l.length<=100000:=(by omega);have hBw:w.heap.size+1<=wr.heap.size:=mid.new;obtain⟨l0,l1,l2,l3,l4⟩:=mid.rdr.cell;clear hst hgo ho2 hb2 hpk h2
     by_cases h41:st2.peek s=41
     . have e3:(st2.peek s != 41)=false:=(by simpa using h41);have e4:(st2.opn==0)=true:=(by simpa using h3.resolve_left (fun h=>h h41));clear h3 h41;go_wp2_with (first
         | (go_at_call 72;(with_reducible refine (zae _ g s st2 (by first | with_reducible exact mid.rdr | with_reducible exact mid.rdr.drewN _) hs).mono ?_);rintro e w3 ⟨rfl,n,rfl⟩)
         | (go_at_call 93;(with_reducible refine (HA.out _ _ (mid.rdr.drewN _) HO2.out hp2).mono ?_);rintro e w4 ⟨t,k,st4,rfl,ht4,r4,o4,hr4⟩;obtain⟨A,tn,tc,rfl⟩:=ht4.form;unfold nodeV;have mid4:=(mid.drewN _).next o4 r4;have row4:=(hrow.drewN _).only o4 (mid.rdr.drewN _);have ht5:=zde (hrow.drewN _) hBw ht4;have hw4:w.heap.size+1<=w4.heap.size:=mid4.new)
         | (at_builtin;refine zbd (by rfl) _ _ (by rfl) (by rfl) (row4.alloc _) (by simp;omega) hll t (.slice A tn tc) (ht5.alloc _) ⟨w4.heap.size,0,none⟩ 1 (by rfl) (zcb w4 t (.slice A tn tc)) ?_;intro v6 w6 row6 o6 hB6;have mid6:=(mid4.alloc _).row o6 (fun b hb=>by have:=(row4.lt b hb).1;omega)))
       have hre:Rel s (thenR (cPiece s deep st2.pos) fun t p => .ok (l++[t],p)) st2 (l++[t]) st4:=hr4.then (fun hz=>⟨rfl,rfl,rfl,hr4.pos⟩) fun _ hz=>Rel.mk0 rfl hr4.pos (fun h=>absurd hz h) fun _ => .inl ⟨hz,rfl⟩
       have HG:=HGO.out.on HB2.out HST.out hre (HF.out l st2.pos _ HST.out);go_roundg (if st4.bad=0 then gk-1 else 0)
       case measure=>exact HG.1
       case rel=>exact⟨l++[t],st4,mid6,row6,by simp,by have:=HG.1;simp;omega,HG.2⟩
     . have e3:(st2.peek s != 41)=true:=(by simpa using h41);clear h3 h41;go_wp2_with (first
         | (go_at_call 72;(with_reducible refine (zae _ g s st2 (by first | with_reducible exact mid.rdr | with_reducible exact mid.rdr.drewN _) hs).mono ?_);rintro e w3 ⟨rfl,n,rfl⟩)
         | (go_at_call 93;(with_reducible refine (HA.out _ _ (mid.rdr.drewN _) HO2.out hp2).mono ?_);rintro e w4 ⟨t,k,st4,rfl,ht4,r4,o4,hr4⟩;obtain⟨A,tn,tc,rfl⟩:=ht4.form;unfold nodeV;have mid4:=(mid.drewN _).next o4 r4;have row4:=(hrow.drewN _).only o4 (mid.rdr.drewN _);have ht5:=zde (hrow.drewN _) hBw ht4;have hw4:w.heap.size+1<=w4.heap.size:=mid4.new)
         | (at_builtin;refine zbd (by rfl) _ _ (by rfl) (by rfl) (row4.alloc _) (by simp;omega) hll t (.slice A tn tc) (ht5.alloc _) ⟨w4.heap.size,0,none⟩ 1 (by rfl) (zcb w4 t (.slice A tn tc)) ?_;intro v6 w6 row6 o6 hB6;have mid6:=(mid4.alloc _).row o6 (fun b hb=>by have:=(row4.lt b hb).1;omega)))
       have hre:Rel s (thenR (cPiece s deep st2.pos) fun t p => .ok (l++[t],p)) st2 (l++[t]) st4:=hr4.then (fun hz=>⟨rfl,rfl,rfl,hr4.pos⟩) fun _ hz=>Rel.mk0 rfl hr4.pos (fun h=>absurd hz h) fun _ => .inl ⟨hz,rfl⟩
       have HG:=HGO.out.on HB2.out HST.out hre (HF.out l st2.pos _ HST.out);go_roundg (if st4.bad=0 then gk-1 else 0)
       case measure=>exact HG.1
       case rel=>exact⟨l++[t],st4,mid6,row6,by simp,by have:=HG.1;simp;omega,HG.2⟩
   . have hre:=hgo.stop fun hb=>by
       unfold partStep;rw[if_neg];rintro⟨h1,h2,h3⟩;have:=zbq s st2 hb h1;exact hgoes ⟨by omega,by omega,by rcases h3 with h3|h3;exact .inl (by omega);exact .inr (by rw[ho2];simpa using h3)⟩
     have HRE:Hid (Rel s (cPart s deep (st.opn==0) st.pos) st (T.many 2 l) st2):=by
       show Rel s (cPart s deep (st.opn==0) st.pos) st (T.many 2 l) st2
       exact hre.then (fun hz=>⟨rfl,rfl,rfl,hp2⟩) fun _ hz=>Rel.mk0 rfl hp2 (fun h=>absurd hz h) fun _ => .inl ⟨hz,rfl⟩
     clear hre hgo;have hbd:=zgk s st2;rcases (show st2.peek s<0∨(0<=st2.peek s∧st2.peek s=124)∨(0<=st2.peek s∧st2.peek s=41∧st2.opn≠0) by omega) with h1|⟨h1,h2⟩|⟨h1,h2,h3⟩
     . have e1:decide (0<=st2.peek s)=false:=(by simp;omega);clear hgoes;obtain⟨l0,l1,l2,l3,l4⟩:=mid.rdr.cell;go_wp2_with (first
         | (go_at_call 72;(with_reducible refine (zae _ g s st2 (by first | with_reducible exact mid.rdr | with_reducible exact mid.rdr.drewN _) hs).mono ?_);rintro e w3 ⟨rfl,n,rfl⟩)
         | (go_at_call 73;(with_reducible refine (zjo _ _ _ _ _ (hrow.drewN _) hl0).mono ?_);rintro e w4 ⟨k,rfl,ht4,hb4⟩;obtain⟨A,tn,tc,rfl⟩:=ht4.form;unfold nodeV;have mid4:=(mid.drewN _).below hb4;obtain⟨m0,m1,m2,m3,m4,m5,m6,m7⟩:=mid4.box.cell;obtain⟨y0,y1,y2,y3,y4,y5,y6,y7⟩:=mid4.box.frozen))
       refine bodyPost_ret (v:=nodeV (T.many 2 l) (.slice A tn tc)) ?_ rfl (mid4.ret (ht4.weak fun b hb _=>hb) HRE.out);simp[nodeV,T.zero,T.op,T.set,T.lo,T.hi,za6,results,Tryz.results71,go_sem,m0,m1,m2,m3,m4,m5,m6,m7]
     . have e2:(st2.peek s != 124)=false:=(by simpa using h2);have e1:decide (0<=st2.peek s)=true:=(by simpa using h1);clear hgoes h2;obtain⟨l0,l1,l2,l3,l4⟩:=mid.rdr.cell;go_wp2_with (first
         | (go_at_call 72;(with_reducible refine (zae _ g s st2 (by first | with_reducible exact mid.rdr | with_reducible exact mid.rdr.drewN _) hs).mono ?_);rintro e w3 ⟨rfl,n,rfl⟩)
         | (go_at_call 73;(with_reducible refine (zjo _ _ _ _ _ (hrow.drewN _) hl0).mono ?_);rintro e w4 ⟨k,rfl,ht4,hb4⟩;obtain⟨A,tn,tc,rfl⟩:=ht4.form;unfold nodeV;have mid4:=(mid.drewN _).below hb4;obtain⟨m0,m1,m2,m3,m4,m5,m6,m7⟩:=mid4.box.cell;obtain⟨y0,y1,y2,y3,y4,y5,y6,y7⟩:=mid4.box.frozen))
       refine bodyPost_ret (v:=nodeV (T.many 2 l) (.slice A tn tc)) ?_ rfl (mid4.ret (ht4.weak fun b hb _=>hb) HRE.out);simp[nodeV,T.zero,T.op,T.set,T.lo,T.hi,za6,results,Tryz.results71,go_sem,m0,m1,m2,m3,m4,m5,m6,m7]
     . have e2:(st2.peek s != 124)=true:=(by simp;omega);have e1:decide (0<=st2.peek s)=true:=(by simpa using h1);have e3:(st2.peek s != 41)=false:=(by simpa using h2);have e4:(st2.opn==0)=false:=(by simpa using h3);clear hgoes h2 h3 ho2;obtain⟨l0,l1,l2,l3,l4⟩:=mid.rdr.cell;go_wp2_with (first
         | (go_at_call 72;(with_reducible refine (zae _ g s st2 (by first | with_reducible exact mid.rdr | with_reducible exact mid.rdr.drewN _) hs).mono ?_);rintro e w3 ⟨rfl,n,rfl⟩)
         | (go_at_call 73;(with_reducible refine (zjo _ _ _ _ _ (hrow.drewN _) hl0).mono ?_);rintro e w4 ⟨k,rfl,ht4,hb4⟩;obtain⟨A,tn,tc,rfl⟩:=ht4.form;unfold nodeV;have mid4:=(mid.drewN _).below hb4;obtain⟨m0,m1,m2,m3,m4,m5,m6,m7⟩:=mid4.box.cell;obtain⟨y0,y1,y2,y3,y4,y5,y6,y7⟩:=mid4.box.frozen))
       refine bodyPost_ret (v:=nodeV (T.many 2 l) (.slice A tn tc)) ?_ rfl (mid4.ret (ht4.weak fun b hb _=>hb) HRE.out);simp[nodeV,T.zero,T.op,T.set,T.lo,T.hi,za6,results,Tryz.results71,go_sem,m0,m1,m2,m3,m4,m5,m6,m7]
end
end Go.Proofs.YtgbdanddbgomhaaGreatDoor
