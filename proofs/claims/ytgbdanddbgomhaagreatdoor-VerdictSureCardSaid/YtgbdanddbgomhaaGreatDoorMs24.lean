import Derived.Test.YtgbdanddbgomhaaGreatDoorMs22
set_option linter.unusedVariables false
set_option linter.unusedSimpArgs false
namespace Go.Proofs.YtgbdanddbgomhaaGreatDoor
open Go Go.RowKit Go.Shelf
section
attribute [local go_sem] Oper.semAt_some
def hitP (p:Nat->Bool) (xs:List Int) (y x:Nat):Bool:=decide (y<xs.length)&&p (xs.getD y 0).toNat&&x==y+1
set_option maxRecDepth 20000 in
set_option maxHeartbeats 2000000 in
theorem zm3 {w:World} {B c:Nat} {xs:List Int} {A:Option Addr} {Γ:Ghost} {g o:Nat} {t:T} {v:Value} {q:Nat->Bool} (h:Ask w B xs A Γ) (e:Γ.F g o=some t) (h1:t.op=1) (hv:InW w xs v q):
   Calls Tryz.prog 49 #[.pointer (some ⟨g,o,none⟩),.slice A xs.length c,v] w (RetMine B w xs Γ (img (E xs t) fun i=>q i=true)):=by
 have hm:xs.length / 64+1<=1000000:=(by have:=h.len;omega);obtain⟨gs,cs,rfl,_,hgs⟩:=hv.pl.form (by omega);have hp:=(h.inv.inv.part g o t e).2;obtain⟨gn,on,kn,n1,n2,n3,curn,n4⟩:=hp.node;obtain⟨curp,hpb⟩:=hp.block;have hlen:=h.len;have HH:=Zh h;have HV:=Zh hv;have HN2:=Zh n2;have HNW:=Zh (fun w=>zbj w xs.length (by omega));unfold RetPl at HNW;generalize hM:xs.length / 64+1=m at *;have HM:=Zh (fun _:Unit=>hM);have hm0:0<m:=(by omega);refine (callsIn_wide (n:=3)).1 ?_;refine callsIn_of_wp_marks Tryz.func49 rfl trivial ?_ rfl;simp only[Tryz.ntmps49,List.size_toArray,List.length_cons,List.length_nil,Nat.reduceAdd,Nat.reduceSub,Array.replicate_succ,Array.replicate_zero,List.push_toArray,List.append_toArray,List.nil_append,List.cons_append];clear h hv n2 n3 hp hM
 gi_wp2_with (refine⟨trivial,?_⟩;first
   | (gi_at_call 52;refine (callsIn_wide.2 (HNW.out _)).mono ?_;rintro e1 w2 ⟨v2,rfl,hv2,hb2⟩;obtain⟨gf,cf,rfl,hgf1,hgf2⟩:=hv2.form hm0;have HV2:=Zh hv2;clear hv2)
   | (gi_at_call 77;refine (zmb _ _ _ _ _).mono ?_;rintro e1 w3 ⟨rfl,rfl⟩))
 have s0:(w.alloc (.cells #[.pointer (some ⟨g,o,none⟩)] 108)).heap.size=w.heap.size+1:=(by simp);have s1:((w.alloc (.cells #[.pointer (some ⟨g,o,none⟩)] 108)).alloc (.cells #[.slice A xs.length c] 46)).heap.size=w.heap.size+2:=(by simp);have p0:w2.cell? ⟨w.heap.size,0,none⟩=some (.pointer (some ⟨g,o,none⟩)):=by
   rw[hb2.cell (p:=⟨w.heap.size,0,none⟩) (by rw[s1];show w.heap.size<_;omega)];simp[World.cell?_alloc_new]
 have p1:w2.cell? ⟨w.heap.size+1,0,none⟩=some (.slice A xs.length c):=by
   rw[hb2.cell (p:=⟨w.heap.size+1,0,none⟩) (by rw[s1];show w.heap.size+1<_;omega)];have:=World.cell?_alloc_new (w.alloc (.cells #[.pointer (some ⟨g,o,none⟩)] 108)) #[.slice A xs.length c] 46 0;rw[World.size_alloc] at this;exact this
 have hB2:Below w.heap.size w w2:=((((Below.refl _ _).alloc (Nat.le_refl _) _).alloc (by simp) _)).trans (hb2.mono (by rw[s1];omega));have hs2:=hb2.size;rw[s1] at hs2 hgf1;obtain⟨W5,hW5⟩:∃ W5,W5=((w2.alloc (.cells #[.slice (some ⟨gf,0,none⟩) m cf] 82)).alloc (.cells #[.slice (some ⟨gs,0,none⟩) m cs] 82)):=⟨_,rfl⟩;rw[←hW5];have s5:W5.heap.size=w2.heap.size+2:=(by rw[hW5];simp);have b25:Below w2.heap.size w2 W5:=(by rw[hW5];exact ((Below.refl _ _).alloc (Nat.le_refl _) _).alloc (by simp) _);have hB5:Below w.heap.size w W5:=hB2.trans (b25.mono (by omega));have q0:W5.cell? ⟨w.heap.size,0,none⟩=some (.pointer (some ⟨g,o,none⟩)):=(b25.cell (p:=⟨w.heap.size,0,none⟩) (by show w.heap.size<_;omega)).trans p0;have q1:W5.cell? ⟨w.heap.size+1,0,none⟩=some (.slice A xs.length c):=(b25.cell (p:=⟨w.heap.size+1,0,none⟩) (by show w.heap.size+1<_;omega)).trans p1;have q2:W5.cell? ⟨w2.heap.size,0,none⟩=some (.slice (some ⟨gf,0,none⟩) m cf):=(by rw[hW5];simp);have q3:W5.cell? ⟨w2.heap.size+1,0,none⟩=some (.slice (some ⟨gs,0,none⟩) m cs):=by
   rw[hW5];have:=World.cell?_alloc_new (w2.alloc (.cells #[.slice (some ⟨gf,0,none⟩) m cf] 82)) #[.slice (some ⟨gs,0,none⟩) m cs] 82 0;rw[World.size_alloc] at this;exact this
 have hpl5:Pl W5 w.heap.size (.slice (some ⟨gf,0,none⟩) m cf) m noneP:=(HV2.out.stays b25).lower (by rw[s1];omega);have hask5:=HH.out.stays hB5;have hv5:=HV.out.stays hB5;have HP5:=Zh hpl5;have HA5:=Zh hask5;have HB5:=Zh hB5;have hpv5:Pl W5 0 (.slice (some ⟨gs,0,none⟩) m cs) m q:=(by have h5:=hv5.pl;rwa [HM.out ()] at h5);clear hW5 p0 p1 hpl5 hask5 hv5 b25 hB2 hb2 s0 s1;have hq:=zfl 2 (by omega) (w2.heap.size+1) gs m cs 0 q hm W5 (by omega) q3 hpv5 (by omega) HA5.out.tab;have e1:=enters_of Tryz.func94 (by kernel_rfl) rfl;have hkb:=kpw_b (w:=W5) (g:=gs) (by omega) HA5.out.tab.1;obtain⟨I,hI⟩:∃ I:List (UpAt q (64*m))->World->Prop,I=(fun pre W=>(∀ b,b<W5.heap.size->b≠gf->W.heap[b]?=W5.heap[b]?)∧Below w.heap.size w W∧W5.heap.size<=W.heap.size∧Pl W w.heap.size (.slice (some ⟨gf,0,none⟩) m cf) m (foldP (fun y=>hitP t.set xs y.1) pre)):=⟨_,rfl⟩;have hI1:OwnFrom W5.heap.size I:=by
   rw[hI];exact fun pre W W' row hs hg hr=>⟨fun b hb hne=>(hg.block b (Nat.lt_of_lt_of_le hb hs.2.2.1) (fun er=>by have:=(hr b er.symm).1;omega)).trans (hs.1 b hb hne),hs.2.1.grown hg hs.2.1.size (fun k e=>Nat.le_trans HB5.out.size (hr k e).1),Nat.le_trans hs.2.2.1 hg.size,hs.2.2.2.turn (zap hg (fun r er=>(hr r er).2))⟩
 have hI0:I [] W5:=by
   rw[hI];exact⟨fun _ _ _=>rfl,HB5.out,Nat.le_refl _,HP5.out⟩
 have HI:=Zh (fun _:Unit=>hI);clear hI;refine wpIn_rangeFunc_ownG (F:=Fence.wide) (n:=3) rfl (by decide) (gf:=94) (lb:=#[.pointer (some ⟨w2.heap.size+1,0,none⟩)]) rfl trivial e1 hq KpW.trans hkb (Below.refl _ _) (fun _=>rfl)
   I (fun _ _ _=>False) hI1 (fun _ _ _ _ _ hs _ _=>hs) hI0
   (fun x=>{tmps:=#[.pointer (some ⟨g,o,none⟩),.slice A xs.length c,.slice (some ⟨gs,0,none⟩) m cs,.pointer (some ⟨w.heap.size,0,none⟩),.pointer (some ⟨w.heap.size+1,0,none⟩),undef,.slice none 0 0,.pointer (some ⟨w2.heap.size,0,none⟩),.int .i64 (x.1:Int),.slice A xs.length c,.int .i64 xs.length,.slice (some ⟨gf,0,none⟩) m cf,.slice (some ⟨gs,0,none⟩) m cs,.func (.func 94) #[] #[.pointer (some ⟨w2.heap.size+1,0,none⟩)],.int .i64 (x.1:Int),undef,undef,undef,undef,undef,undef,undef,undef,undef,undef,undef,undef,undef,undef,undef,undef,undef,undef,undef,undef,undef,undef,undef],defers:=[]}) ?assign ?body ?done ?stop
 case assign =>
   clear hI0 hI1 hq hkb e1;intro l x W K hK
   gi_wp2
   exact hK
 case body =>
   clear hI0 hI1 hq hkb e1;intro l pre x W hi hlt;rw[HI.out ()] at hi;obtain⟨hI1,hIB,hI2,hI3⟩:=hi;have old:∀ b o',b<W5.heap.size->b≠gf->W.cell? ⟨b,o',none⟩=W5.cell? ⟨b,o',none⟩:=fun b o' h1 h2=>World.cell?_of_block (w:=W5) (a:=⟨b,o',none⟩) (hI1 b h1 h2)
   have c3:=(old w.heap.size 0 (by omega) (by omega)).trans q0;have c4:=(old (w.heap.size+1) 0 (by omega) (by omega)).trans q1;have c7:=(old w2.heap.size 0 (by omega) (by omega)).trans q2;have HI1:=Zh hI1;have HIB:=Zh hIB;have HI3:=Zh hI3;have HLT:=Zh hlt;obtain⟨y,hy⟩:∃ y:Nat,y=x.1:=⟨_,rfl⟩;rw[←hy];have HY:=Zh (fun _:Unit=>hy);have hx1:y<64*m:=(by rw[hy];exact x.2.1);have hle:y<=xs.length:=HV.out.le y (by rw[hy];exact x.2.2);have hsn:∀ z,foldP (fun y:UpAt q (64*m)=>hitP t.set xs y.1) (pre++[x]) z=(foldP (fun y:UpAt q (64*m)=>hitP t.set xs y.1) pre z||hitP t.set xs y z):=fun z=>by rw[hy];exact zii _ _ _ _
   have HSN:=Zh hsn;have HOLD:=Zh old;clear old;clear hI1 hIB hI3 hlt hy hsn q0 q1 q2 q3 hpv5;have hd:1<=3-1-1:=(by decide);have hmx:Tryz.prog.follows .mixedOrders=true:=(by kernel_rfl);obtain⟨L,hL⟩:∃ L:Nat,L=xs.length:=⟨_,rfl⟩;rw[←hL] at hle c4 ⊢;have HL:=Zh (fun _:Unit=>hL);have HLE:=Zh hle;have HX1:=Zh hx1;clear hlen hL hle hx1
   by_cases hyl:y<L
   . have hyi:(y:Int)<(L:Int):=(by omega);have hyi0:(0:Int)<=(y:Int):=(by omega);have hrd:=HH.out.rd.below (HIB.out.mono HH.out.le);have hl:=HL.out ();obtain⟨b,off,hA,hbB,hcb⟩:=hrd.at (k:=y) (by omega);obtain⟨y0,y1⟩:=HH.out.byte y (by omega);have hby:=hcb y (by omega);have hHK:=fun W'=>has_p t.set (xs.getD y 0) W' y0 y1
     have hadd:∀ W' q',Pl W' w.heap.size (.slice (some ⟨gf,0,none⟩) m cf) m q'->Calls Tryz.prog 55 #[.slice (some ⟨gf,0,none⟩) m cf,.int .i64 ((y:Int)+1)] W' (RetOwn W' w.heap.size m (.slice (some ⟨gf,0,none⟩) m cf) (add1 q' (y+1))):=fun W' q' hq'=>by
       have:=zju W' w.heap.size m (y+1) _ q' hq' (by have h1:=HM.out ();omega) hm
       rwa [show ((y+1:Nat):Int)=(y:Int)+1 by omega] at this
     unfold RetOwn at hadd;have HADD:=Zh hadd;generalize hby0:xs.getD y 0=x0 at *;have HBY:=Zh (fun _:Unit=>hby0);have hgw:=za0 hpb;have hgnw:=za0 n4;have d0:=(HIB.out.cell (p:=⟨g,o,none⟩) hgw).trans n1;have hnb:=HN2.out.block (HIB.out.block gn hgnw);have d1:=hnb 1 _ rfl;have d2:=hnb 2 _ rfl;have d3:=hnb 3 _ rfl;have d4:=hnb 4 _ rfl;have HHK:=Zh hHK;subst hA;have HHR:=Zh HH;clear hrd hcb hHK hadd hby0 hnb HN2 n1 hl hpb n4 HA5 HB5;cases hs:t.set x0.toNat
     . have HS:=Zh hs;have HHK2:Hid (∀ W',Calls Tryz.prog 13 #[.agg #[.int .u64 (word t.set 0),.int .u64 (word t.set 1),.int .u64 (word t.set 2),.int .u64 (word t.set 3)],.int .u8 x0] W' fun e w'=>e = .returned (.bool false)∧Below W'.heap.size W' w'):=fun W'=>(HHK.out W').mono fun e w' k=>by rw[HS.out] at k;exact k
       clear hs HHK
       gi_wp2
       refine zaw 16 hmx (by kernel_rfl) (by kernel_rfl) (by rintro⟨_,_,h⟩;exact h) ?_;simp only[List.take_succ_cons,List.take_zero,List.drop_succ_cons,List.drop_zero]
       iterate 16
         with_reducible refine wpStill_step (fun K hK=>?_)
         have HK:=Zh hK;clear hK;go_simp
         with_reducible refine HK.out _ ?_
         clear HK K
       with_reducible refine wpStill_nil ?_
       go_wp2_with (go_at_call 13;(with_reducible refine (HHK2.out _).mono ?_);rintro e w5 ⟨rfl,hb5⟩;have hb6:=zar hb5;have HB6:=Zh hb6;clear hb5 hb6)
       gi_wp2
       have hb6:=HB6.out;refine⟨zd0 hb6,⟨hb6.size,hb6.block gs (by omega),hb6.block _ (Nat.lt_of_lt_of_le HH.out.tab.1 HIB.out.size)⟩,?_⟩;rw[HI.out ()];refine⟨fun b hb hne=>(hb6.block b (by omega)).trans (HI1.out b hb hne),HIB.out.trans (hb6.mono HIB.out.size),Nat.le_trans hI2 hb6.size,(HI3.out.stays hb6).same fun z=>?_⟩;rw[HSN.out,show hitP t.set xs y z=false by unfold hitP;rw[HBY.out (),HS.out];simp,Bool.or_false]
     . have HS:=Zh hs;have HHK2:Hid (∀ W',Calls Tryz.prog 13 #[.agg #[.int .u64 (word t.set 0),.int .u64 (word t.set 1),.int .u64 (word t.set 2),.int .u64 (word t.set 3)],.int .u8 x0] W' fun e w'=>e = .returned (.bool true)∧Below W'.heap.size W' w'):=fun W'=>(HHK.out W').mono fun e w' k=>by rw[HS.out] at k;exact k
       clear hs HHK
       gi_wp2
       refine zaw 16 hmx (by kernel_rfl) (by kernel_rfl) (by rintro⟨_,_,h⟩;exact h) ?_;simp only[List.take_succ_cons,List.take_zero,List.drop_succ_cons,List.drop_zero]
       iterate 16
         with_reducible refine wpStill_step (fun K hK=>?_)
         have HK:=Zh hK;clear hK;go_simp
         with_reducible refine HK.out _ ?_
         clear HK K
       with_reducible refine wpStill_nil ?_
       go_wp2_with (go_at_call 13;(with_reducible refine (HHK2.out _).mono ?_);rintro e w5 ⟨rfl,hb5⟩;have hb6:=zar hb5;have c7':=(hb6.cell (p:=⟨w2.heap.size,0,none⟩) (by show w2.heap.size<_;omega)).trans c7;have HB6:=Zh hb6;clear hb5 hb6);have hL1:L<=100000:=(by have h1:=HH.out.len;have h2:=HL.out ();omega);have HADD2:=Zh (fun N=>CallsIn.inRound l ((callsIn_wide (n:=N)).2 (HADD.out w5 _ (HI3.out.stays HB6.out))))
       gi_wp2_with (refine⟨trivial,?_⟩;gi_at_call 55;(with_reducible refine (HADD2.out _).mono ?_);rintro e w6 ⟨rfl,hv6,hg6⟩;have HV6:=Zh hv6;have HG6:=Zh hg6;clear hv6 hg6)
       have hb6:=HB6.out;have hg6:=HG6.out;have hrow:∀ j,(Value.slice (some ⟨gf,0,none⟩) m cf).ownBlock=some j->j=gf:=fun j e=>by cases e;rfl
       have hblk:∀ b,b<W.heap.size->b≠gf->w6.heap[b]?=W.heap[b]?:=fun b h1 h2=>(hg6.block b (Nat.lt_of_lt_of_le h1 hb6.size) (fun e=>h2 (hrow b e.symm))).trans (hb6.block b h1)
       have htab:=HH.out.tab.1;refine⟨(zd0 hb6).trans (KeepsFrom.of_grownBy hg6 fun j e=>by have:=hrow j e;omega),⟨Nat.le_trans hb6.size hg6.size,hblk gs (by omega) (by omega),hblk _ (Nat.lt_of_lt_of_le htab HIB.out.size) (by omega)⟩,?_⟩;rw[HI.out ()];refine⟨fun b hb hne=>(hblk b (by omega) hne).trans (HI1.out b hb hne),(HIB.out.trans (hb6.mono HIB.out.size)).grown hg6 (Nat.le_trans HIB.out.size hb6.size) (fun k e=>by have:=hrow k e;omega),Nat.le_trans hI2 (Nat.le_trans hb6.size hg6.size),HV6.out.same fun z=>?_⟩;have hl:=HL.out ();rw[HSN.out,show hitP t.set xs y z=(z==y+1) by unfold hitP;rw[HBY.out (),HS.out,←hl];simp[hyl]];rfl
   . have hyi:¬ ((y:Int)<(L:Int)):=(by omega);have HYL:=Zh hyl;clear hyl
     gi_wp2
     refine zaw 16 hmx (by kernel_rfl) (by kernel_rfl) (by rintro⟨_,_,h⟩;exact h) ?_;simp only[List.take_succ_cons,List.take_zero,List.drop_succ_cons,List.drop_zero];have hyn:¬ y<L:=HYL.out;clear hyi
     iterate 16
       with_reducible refine wpStill_step (fun K hK=>?_)
       have HK:=Zh hK;clear hK;go_simp
       with_reducible refine HK.out _ ?_
       clear HK K
     with_reducible refine wpStill_nil ?_
     go_wp2
     gi_wp2
     refine⟨(KeepsOthers.drew W).from _,⟨Nat.le_refl _,rfl,rfl⟩,?_⟩;rw[HI.out ()];refine⟨HI1.out,HIB.out.drew,hI2,HI3.out.same fun z=>?_⟩;have hl:=HL.out ();rw[HSN.out,show hitP t.set xs y z=false by unfold hitP;rw[←hl];simp[hyn],Bool.or_false]
 case done =>
   clear hI0 hI1 hq hkb e1;intro D ys W hD hys hi hK;rw[HI.out ()] at hi;obtain⟨hI1,hIB,hI2,hI3⟩:=hi;have r2:W.cell? ⟨w2.heap.size,0,none⟩=some (.slice (some ⟨gf,0,none⟩) m cf):=(World.cell?_of_block (w:=W5) (a:=⟨w2.heap.size,0,none⟩) (hI1 w2.heap.size (by omega) (by omega))).trans q2;have HK:=Zh hK;have HI1:=Zh hI1;have HIB:=Zh hIB;have HI3:=Zh hI3;have HYS:=Zh (fun _:Unit=>hys);clear hK hI1 hI3 hys hIB
   gi_wp2
   refine⟨by simp,.inl ⟨_,_,rfl,run_takeDeferred HK.out,?_⟩⟩;have hgo:=grownBy_putObj' W D (.deferred none);have hrow:∀ r,some D=some r->∃ o:Obj,W.heap[r]?=some o∧o.isCells=false:=fun r e=>by cases e;exact⟨_,HK.out,rfl⟩
   have hBw:=HIB.out.grown hgo HIB.out.size (fun k e=>by cases e;have:=HB5.out.size;omega);refine⟨_,results_tmp rfl _ _ _,.slice (some ⟨gf,0,none⟩) m cf,foldP (fun y:UpAt q (64*m)=>hitP t.set xs y.1) ys,Γ,rfl,HH.out.inv.stays hBw,Ext.stays Γ hBw HH.out.le,?_,?_,?_⟩
   . rw[HM.out ()];exact Mine.new HH.out.inv (HI3.out.turn (zap hgo hrow)) (Nat.le_refl _)
   . intro z hz;rw[zh7 ys (HYS.out ())] at hz;obtain⟨i,_,_,hi⟩:=hz;simp[hitP] at hi;omega
   . intro z;rw[zh7 ys (HYS.out ())];have hM:=HM.out ();cases t with
     | mk op p lo hi l =>
       have eo:op=1:=h1;subst eo;simp only[img,zm6,hitP,T.set];constructor
       . rintro⟨i,h1,h2,h3⟩;simp at h3;exact⟨i,h2,h3.1.1,h3.1.2,h3.2⟩
       . rintro⟨i,h2,h3,h4,h5⟩;refine⟨i,by omega,h2,?_⟩;simp;exact⟨⟨h3,h4⟩,h5⟩
 case stop =>
   rintro D c pre W _ _ h _;exact h.elim
end
end Go.Proofs.YtgbdanddbgomhaaGreatDoor
