import Derived.Test.YtgbdanddbgomhaaGreatDoorMs25
import Derived.Deep.RegionHeld
set_option linter.unusedVariables false
set_option linter.unusedSimpArgs false
namespace Go.Proofs.YtgbdanddbgomhaaGreatDoor
open Go Go.RowKit Go.Shelf
section
attribute [local go_sem] Oper.semAt_some
theorem zfz {W:World} {k:Nat} {o:Obj} (hk:W.heap[k]?=some o) (ho:o.isCells=false):Still W k:=by
 refine⟨za0 hk,fun cur e=>?_,fun cur e=>?_⟩
 . rw[hk] at e;injection e with e
   rw[e] at ho;cases ho
 . rw[hk] at e;injection e with e
   rw[e] at ho;cases ho
theorem zk8 {B N:Nat} {W W':World} {Γ Γ':Ghost} (x:Ext B W W' Γ Γ'):KeepsFrom N W W':=⟨x.below.size,fun k o _ hk ho=>(x.still k (zfz hk ho)).trans hk⟩
set_option maxRecDepth 20000 in
set_option maxHeartbeats 2000000 in
theorem zmo {w:World} {B c:Nat} {xs:List Int} {A:Option Addr} {Γ:Ghost} {g o ln hn:Nat} {u:T} {v:Value} {q:Nat->Bool} (ih:EndsP u) (h:Ask w B xs A Γ) (e:Γ.F g o=some (.mk 4 noneP ln hn [u])) (hv:InW w xs v q):
   Calls Tryz.prog 54 #[.pointer (some ⟨g,o,none⟩),.slice A xs.length c,v] w (RetMine B w xs Γ (img (E xs (.mk 4 noneP ln hn [u])) fun i=>q i=true)):=by
 have hm:xs.length / 64+1<=1000000:=(by have:=h.len;omega);have hm0:0<xs.length / 64+1:=(by omega);obtain⟨gs,cs,rfl,_,hgs⟩:=hv.pl.form (by omega);have hp:=(h.inv.inv.part g o _ e).2;obtain⟨a,ha1,ha2⟩:=hp.asked;obtain⟨curp,hpb⟩:=hp.block;have hgw:=za0 hpb;have hfz:w.frozen? ⟨g,o+2,none⟩=false:=(by simp[World.frozen?,hpb]);have hlen:=h.len;have HH:=Zh h;have HE:=Zh e;have HV:=Zh hv;have hb2:Below w.heap.size w ((w.alloc (.cells #[.pointer (some ⟨g,o,none⟩)] 108)).alloc (.cells #[.slice A xs.length c] 46)):=((Below.refl _ _).alloc (Nat.le_refl _) _).alloc (by simp) _;have k2:=(hb2.cell (p:=⟨g,o+2,none⟩) hgw).trans ha1;have HB2:=Zh hb2;have HNW:=Zh (fun w=>zbj w xs.length (by omega));unfold RetPl at HNW;have hmx:Tryz.prog.follows .mixedOrders=true:=(by kernel_rfl);refine (callsIn_wide (n:=3)).1 ?_;refine callsIn_of_wp_marks Tryz.func54 rfl trivial ?_ rfl;simp only[Tryz.ntmps54,List.size_toArray,List.length_cons,List.length_nil,Nat.reduceAdd,Nat.reduceSub,Array.replicate_succ,Array.replicate_zero,List.push_toArray,List.append_toArray,List.nil_append,List.cons_append];clear h e hv hp hb2 ha1
 gi_wp2
 refine wpIn_wide.2 ?_
 by_cases hal:a<=xs.length
 . go_quiet (fail);have hb1:=below_drewN HB2.out nq;have hk:=(HH.out.stays hb1).inv.inv.ask HE.out (a+1) (by omega);rw[show ((a+1:Nat):Int)=(a:Int)+1 by omega] at hk;have hx:=(Ext.stays Γ hb1 HH.out.le).trans hk.2;have ha:=HH.out.ext hx ⟨hk.1,fun g' e'=>Nat.lt_of_lt_of_le (HH.out.inv.old g' e') hx.below.size⟩;have HREP:=Zh (fun cc=>ze5 (c:=cc) ih ha HE.out (HV.out.ext hx));unfold RetMine at HREP;have HX:=Zh hx;clear hb1 hk hx ha
   gi_wp2_with (refine⟨trivial,?_⟩;gi_at_call 78;(with_reducible refine (callsIn_wide.2 (HREP.out _)).mono ?_);rintro e1 w2 ⟨v2,q2,Γ2,rfl,hi2,hx2,hm2,hle2,hq2⟩;have HI2:=Zh hi2;have HX2:=Zh hx2;have HM2:=Zh hm2;have HLE2:=Zh hle2;have HQ2:=Zh hq2;clear hi2 hx2 hm2 hle2 hq2)
   have hw:=HX.out.below.size;exact⟨_,results_tmp rfl _ _ _,v2,q2,Γ2,rfl,HI2.out,HX.out.trans HX2.out,⟨HM2.out.pl.lower hw,HM2.out.free⟩,HLE2.out,HQ2.out⟩
 . have hai:¬ ((a:Int)<=(xs.length:Int)):=(by omega);go_quiet (fail)
   gi_wp2_with (refine⟨trivial,?_⟩;first
     | (gi_at_call 52;refine (callsIn_wide.2 (HNW.out _)).mono ?_;rintro e1 w2 ⟨v2,rfl,hv2,hb2⟩;obtain⟨gf,cf,rfl,hgf1,hgf2⟩:=hv2.form hm0;have HV2:=Zh hv2;clear hv2)
     | (gi_at_call 77;refine (zmb _ _ _ _ _).mono ?_;rintro e1 w3 ⟨rfl,rfl⟩))
   have hbq:=below_drewN HB2.out nq;generalize hgW1:((w.alloc (.cells #[.pointer (some ⟨g,o,none⟩)] 108)).alloc (.cells #[.slice A xs.length c] 46)).drewN nq=W1 at *;have s1:W1.heap.size=w.heap.size+2:=(by rw[←hgW1];simp);have z0:W1.heap[w.heap.size]?=some (.cells #[.pointer (some ⟨g,o,none⟩)] 108 (0,0)):=by
     rw[←hgW1];exact (Below.heap_alloc _ _ _ (by simp)).trans (World.alloc_heap_new w _)
   have z1:W1.heap[w.heap.size+1]?=some (.cells #[.slice A xs.length c] 46 (0,0)):=by
     rw[←hgW1];have:=World.alloc_heap_new (w.alloc (.cells #[.pointer (some ⟨g,o,none⟩)] 108)) (.cells #[.slice A xs.length c] 46)
     rwa [World.size_alloc] at this
   have hs2:=hb2.size;rw[s1] at hs2 hgf1;have y0:=(hb2.block w.heap.size (by omega)).trans z0;have y1:=(hb2.block (w.heap.size+1) (by omega)).trans z1;have hBw2:Below w.heap.size w w2:=hbq.trans (hb2.mono (by omega));obtain⟨W5,hW5⟩:∃ W5,W5=((w2.alloc (.cells #[.slice (some ⟨gf,0,none⟩) (xs.length / 64+1) cf] 82)).alloc (.cells #[.slice (some ⟨gs,0,none⟩) (xs.length / 64+1) cs] 82)):=⟨_,rfl⟩;rw[←hW5];have s5:W5.heap.size=w2.heap.size+2:=(by rw[hW5];simp);have b25:Below w2.heap.size w2 W5:=(by rw[hW5];exact ((Below.refl _ _).alloc (Nat.le_refl _) _).alloc (by simp) _);have hB5:Below w.heap.size w W5:=hBw2.trans (b25.mono (by omega));have x0:=(b25.block w.heap.size (by omega)).trans y0;have x1:=(b25.block (w.heap.size+1) (by omega)).trans y1;have x2:W5.heap[w2.heap.size]?=some (.cells #[.slice (some ⟨gf,0,none⟩) (xs.length / 64+1) cf] 82 (0,0)):=by
     rw[hW5];exact (Below.heap_alloc _ _ _ (by simp)).trans (World.alloc_heap_new w2 _)
   have q3:W5.cell? ⟨w2.heap.size+1,0,none⟩=some (.slice (some ⟨gs,0,none⟩) (xs.length / 64+1) cs):=by
     rw[hW5];have:=World.cell?_alloc_new (w2.alloc (.cells #[.slice (some ⟨gf,0,none⟩) (xs.length / 64+1) cf] 82)) #[.slice (some ⟨gs,0,none⟩) (xs.length / 64+1) cs] 82 0;rw[World.size_alloc] at this;exact this
   have hmine5:Mine w W5 B Γ (.slice (some ⟨gf,0,none⟩) (xs.length / 64+1) cf) (xs.length / 64+1) noneP:=Mine.new HH.out.inv ((HV2.out.stays b25).lower (by rw[s1];omega)) (Nat.le_refl _);have hv5:=HV.out.stays hB5;have hask5:=HH.out.stays hB5;have HA5:=Zh hask5;have HB5:=Zh hB5;have HM5:=Zh hmine5;have HX0:=Zh x0;have HX1:=Zh x1;have HX2:=Zh x2;have hq:=zfl 2 (by omega) (w2.heap.size+1) gs (xs.length / 64+1) cs 0 q hm W5 (by omega) q3 hv5.pl (by omega) HA5.out.tab;have e1:=enters_of Tryz.func94 (by kernel_rfl) rfl;have hkb:=kpw_b (w:=W5) (g:=gs) (by omega) HA5.out.tab.1;obtain⟨I,hI⟩:∃ I:List (UpAt q (64*(xs.length / 64+1)))->World->Prop,I=(fun pre W=>∃ Γ' q',InvM W B xs Γ'∧Ext B w W Γ Γ'∧Mine w W B Γ' (.slice (some ⟨gf,0,none⟩) (xs.length / 64+1) cf) (xs.length / 64+1) q'∧(∀ x,q' x=true↔∃ y,y∈pre∧E xs (.mk 4 noneP ln hn [u]) y.1 x)∧(∀ b,(b=w.heap.size∨b=w.heap.size+1∨b=w2.heap.size)->W.heap[b]?=W5.heap[b]?)∧W5.heap.size<=W.heap.size∧∀ t,Γ'.G w2.heap.size≠some t):=⟨_,rfl⟩;have hI1:OwnFrom W5.heap.size I:=by
     rw[hI];rintro pre W W' row ⟨Γ',q',i1,i2,i3,i4,i5,i6,i7⟩ hg hr;have hr2:∀ r,row=some r->∃ o:Obj,W.heap[r]?=some o∧o.isCells=false:=fun r e=>(hr r e).2
     refine⟨Γ',q',i1.turn hg hr2,i2.turn i1 hg HH.out.le (fun r e=>⟨by have:=(hr r e).1;omega,hr2 r e⟩),i3.turn hg hr2,i4,fun b hb=>(hg.block b (by omega) (fun er=>by have:=(hr b er.symm).1;omega)).trans (i5 b hb),Nat.le_trans i6 hg.size,i7⟩
   have hI0:I [] W5:=by
     rw[hI];refine⟨Γ,noneP,HA5.out.inv,Ext.stays Γ HB5.out HH.out.le,HM5.out,fun x=>by simp[noneP],fun _ _=>rfl,Nat.le_refl _,fun t ht=>?_⟩;have:=HH.out.inv.inv.oldG ht;omega
   have HI:=Zh (fun _:Unit=>hI);clear hI hW5 z0 z1 y0 y1 x0 x1 x2 hgW1 hb2 hbq hBw2 b25 hB5 hmine5 hv5 hask5 k2 hfz hpb;refine wpIn_rangeFunc_ownG (F:=Fence.wide) (n:=3) rfl (by decide) (gf:=94) (lb:=#[.pointer (some ⟨w2.heap.size+1,0,none⟩)]) rfl trivial e1 hq KpW.trans hkb (Below.refl _ _) (fun _=>rfl)
     I (fun _ _ _=>False) hI1 (fun _ _ _ _ _ hs _ _=>hs) hI0
     (fun x=>{tmps:=#[.pointer (some ⟨g,o,none⟩),.slice A xs.length c,.slice (some ⟨gs,0,none⟩) (xs.length / 64+1) cs,.pointer (some ⟨w.heap.size,0,none⟩),.pointer (some ⟨w.heap.size+1,0,none⟩),undef,.slice none 0 0,.pointer (some ⟨w2.heap.size,0,none⟩),.int .i64 (x.1:Int),.pointer (some ⟨g,o,none⟩),.pointer (some ⟨g,o,none⟩),.pointer (some ⟨g,o+2,none⟩),.int .i64 a,.slice A xs.length c,.int .i64 xs.length,.bool false,undef,undef,undef,undef,undef,undef,undef,undef,undef,undef,undef,.slice A xs.length c,.int .i64 xs.length,.slice (some ⟨gf,0,none⟩) (xs.length / 64+1) cf,.slice (some ⟨gs,0,none⟩) (xs.length / 64+1) cs,.func (.func 94) #[] #[.pointer (some ⟨w2.heap.size+1,0,none⟩)],.int .i64 (x.1:Int),undef,undef,undef,undef,undef,undef,undef],defers:=[]}) ?assign ?body ?done ?stop
   case assign =>
     clear hI0 hI1 hq hkb e1;intro l x W K hK
     gi_wp2
     exact hK
   case body =>
     clear hI0 hI1 hq hkb e1;intro l pre x W hi hlt;rw[HI.out ()] at hi;obtain⟨Γ1,q1,i1,i2,i3,i4,i5,i6,i7⟩:=hi;obtain⟨y,hy⟩:∃ y:Nat,y=x.1:=⟨_,rfl⟩;rw[←hy];have hle:y<=xs.length:=HV.out.le y (by rw[hy];exact x.2.2);have c3:W.cell? ⟨w.heap.size,0,none⟩=some (.pointer (some ⟨g,o,none⟩)):=by
       have:=(i5 w.heap.size (by simp)).trans HX0.out;simp[World.cell?,this]
     have c4:W.cell? ⟨w.heap.size+1,0,none⟩=some (.slice A xs.length c):=by
       have:=(i5 (w.heap.size+1) (by simp)).trans HX1.out;simp[World.cell?,this]
     have c7:W.cell? ⟨w2.heap.size,0,none⟩=some (.slice (some ⟨gf,0,none⟩) (xs.length / 64+1) cf):=by
       have:=(i5 w2.heap.size (by simp)).trans HX2.out;simp[World.cell?,this]
     have hdr:Below W.heap.size W W.drew:=(Below.refl _ _).drew;have hleW:B<=W.heap.size:=Nat.le_trans HH.out.le i2.below.size;have hask:=(HH.out.ext i2 i1).stays hdr;have htf:=zfx (c:=c) ih hask (i2.F _ _ _ HE.out) hle;unfold RetEndsP at htf;have HTF:=Zh htf;have HI1:=Zh i1;have HI2:=Zh i2;have HI3:=Zh i3;have HI4:=Zh i4;have HI5:=Zh i5;have HI7:=Zh i7;have HLW:=Zh hleW;have HDR:=Zh hdr;have HY:=Zh (fun _:Unit=>hy);clear i1 i2 i3 i4 i5 i7 hdr hask htf hy hleW hlt;have hd:1<=3-1-1:=by decide
     gi_wp2
     refine wpIn_region_any hmx (zax (by kernel_rfl) (by rintro⟨_,_,h⟩;exact h) _ _ _ _ (wpAny_of_held (S:=fun w'=>w'.cell? ⟨w2.heap.size,0,none⟩=some (.slice (some ⟨gf,0,none⟩) (xs.length / 64+1) cf)∧w'.cell? ⟨w.heap.size,0,none⟩=some (.pointer (some ⟨g,o,none⟩))∧w'.cell? ⟨w.heap.size+1,0,none⟩=some (.slice A xs.length c)) _ _ _ _ ?_));change wpAnyH _ _ _ _ _ _ _ _ (World.drew _);refine wpAnyH_take (i:=0) (v := .slice (some ⟨gf,0,none⟩) (xs.length / 64+1) cf) rfl (by kernel_rfl) (by kernel_rfl) (by kernel_rfl) (fun _ _ _ h=>h) (Or.inl ⟨by rfl,fun w' hS=>by obtain⟨t1,t2,t3⟩:=hS;go_simp⟩) ⟨c7,c3,c4⟩ ?_;refine wpAnyH_take (i:=1) (v := .pointer (some ⟨g,o,none⟩)) rfl (by kernel_rfl) (by kernel_rfl) (by kernel_rfl) (fun _ _ _ h=>h) (Or.inl ⟨by rfl,fun w' hS=>by obtain⟨t1,t2,t3⟩:=hS;go_simp⟩) ⟨c7,c3,c4⟩ ?_;refine wpAnyH_take (i:=2) (v := .slice A xs.length c) rfl (by kernel_rfl) (by kernel_rfl) (by kernel_rfl) (fun _ _ _ h=>h) (Or.inl ⟨by rfl,fun w' hS=>by obtain⟨t1,t2,t3⟩:=hS;go_simp⟩) ⟨c7,c3,c4⟩ ?_;refine wpAnyH_take (i:=3) (v := .int .i64 (y:Int)) rfl (by kernel_rfl) (by kernel_rfl) (by kernel_rfl) (fun _ _ _ h=>h) (Or.inl ⟨by rfl,fun w' hS=>by go_simp⟩) ⟨c7,c3,c4⟩ ?_;refine wpAnyH_ready (rs:=[4]) (by kernel_rfl) (by simp) (AllReadyH.cons rfl (fun K hK=>?_) AllReadyH.nil);go_simp;go_at_call 79
     with_reducible refine HTF.out.mono ?_
     rintro e1 wa ⟨v2,q2,Γ2,rfl,hi2,hx2,hv2,hq2⟩;have b0:=(hx2.still w.heap.size (zai (w:=W.drew) ((HI5.out w.heap.size (by simp)).trans HX0.out) (by decide) (by decide))).trans ((HI5.out w.heap.size (by simp)).trans HX0.out);have b1:=(hx2.still (w.heap.size+1) (zai (w:=W.drew) ((HI5.out (w.heap.size+1) (by simp)).trans HX1.out) (by decide) (by decide))).trans ((HI5.out (w.heap.size+1) (by simp)).trans HX1.out);have b2:=(hx2.box w2.heap.size _ ((HI5.out w2.heap.size (by simp)).trans HX2.out) HI7.out).trans ((HI5.out w2.heap.size (by simp)).trans HX2.out);have HXB:=Zh ((HI2.out.trans (Ext.stays Γ1 HDR.out HLW.out)).trans hx2);have HMA:=Zh ((HI3.out.kept HDR.out).ext hx2);have HI2':=Zh hi2;have HX2':=Zh hx2;have HV2':=Zh hv2;have HQ2':=Zh hq2;have HB0:=Zh b0;have HB1:=Zh b1;have HB2':=Zh b2;clear hi2 hx2 hv2 hq2 b0 b1 b2;refine hK.out _ _ ⟨by simp[World.cell?,HB2'.out],by simp[World.cell?,HB0.out],by simp[World.cell?,HB1.out]⟩ (fun hHeld=>?_);clear hHeld hK K;have hjo:=zcn wa w.heap.size 0 (xs.length / 64+1) _ _ q1 q2 HMA.out.pl HV2'.out.pl HXB.out.below.size hm0 hm;unfold RetOwn at hjo;have HJO:=Zh hjo;clear hjo;refine wpAnyH_ready (rs:=[5]) (by kernel_rfl) (by simp) (AllReadyH.cons rfl (fun K hK=>?_) AllReadyH.nil);go_simp;go_at_call 53
     with_reducible refine HJO.out.mono ?_
     rintro e1 wb ⟨rfl,hv7,hg7⟩;obtain⟨j1,j2,j3⟩:=HMA.out.set hm0 HI2'.out HXB.out hv7 hg7 HH.out.le;have hrow:∀ j,(Value.slice (some ⟨gf,0,none⟩) (xs.length / 64+1) cf).ownBlock=some j->j=gf:=fun j e=>by cases e;rfl
     have hblk:∀ b,b<wa.heap.size->b≠gf->wb.heap[b]?=wa.heap[b]?:=fun b h1 h2=>hg7.block b h1 (fun e=>h2 (hrow b e.symm))
     have hsa:=HX2'.out.below.size;have hsa':W.heap.size<=wa.heap.size:=hsa;have k0:=(hblk w.heap.size (by omega) (by omega)).trans HB0.out;have k1:=(hblk (w.heap.size+1) (by omega) (by omega)).trans HB1.out;have k2:=(hblk w2.heap.size (by omega) (by omega)).trans HB2'.out;refine hK.out _ _ ⟨by simp[World.cell?,k2],by simp[World.cell?,k0],by simp[World.cell?,k1]⟩ (fun hHeld=>?_);clear hHeld hK K;refine wpAnyH_done (by kernel_rfl) ?_ _;have htB:=HH.out.tabB;have hleB:=HH.out.le;have hgsb:∃ cur,W.heap[gs]?=some (.cells cur 22 (0,0)):=by
       rcases (HV.out.ext HI2.out).pl.2 with ⟨e,_⟩|⟨g',cap',cur,e,_,hg',_⟩
       . cases e
       . injection e with e
         injection e with e
         injection e with e
         rw[←e] at hg';exact⟨cur,hg'⟩
     obtain⟨curs,hgsb⟩:=hgsb;refine⟨(((KeepsOthers.drew W).from _).trans (zk8 HX2'.out)).trans (KeepsFrom.of_grownBy hg7 fun j e=>by have:=hrow j e;omega),⟨Nat.le_trans hsa' hg7.size,(hblk gs (by omega) (by omega)).trans (HX2'.out.still gs (zai (w:=W.drew) hgsb (by decide) (by decide))),(hblk _ (by omega) (by omega)).trans (HX2'.out.below.block _ htB)⟩,?_⟩;rw[HI.out ()];refine⟨Γ2,orP q1 q2,j1,j2,j3,fun z=>?_,fun b hb=>?_,Nat.le_trans i6 (Nat.le_trans hsa' hg7.size),fun t ht=>?_⟩
     . have e1:=HI4.out z;have e2:=HQ2'.out z;simp only[orP,Bool.or_eq_true,e1,e2,List.mem_append,List.mem_singleton];constructor
       . rintro (⟨y',h1,h2⟩|h2)
         . exact⟨y',.inl h1,h2⟩
         . exact⟨x,.inr rfl,by rw[←HY.out ()];exact h2⟩
       . rintro⟨y',h1|h1,h2⟩
         . exact .inl ⟨y',h1,h2⟩
         . subst h1;exact .inr (by rw[HY.out ()];exact h2)
     . rcases hb with rfl|rfl|rfl
       . exact k0.trans HX0.out.symm
       . exact k1.trans HX1.out.symm
       . exact k2.trans HX2.out.symm
     . rcases HX2'.out.newG _ _ ht with h1|h1
       . exact HI7.out t h1
       . have h2:W.heap.size<=w2.heap.size:=h1;omega
   case done =>
     clear hI0 hI1 hq hkb e1;intro D ys W hD hys hi hK;rw[HI.out ()] at hi;obtain⟨Γ1,q1,i1,i2,i3,i4,i5,i6,i7⟩:=hi;have r2:W.cell? ⟨w2.heap.size,0,none⟩=some (.slice (some ⟨gf,0,none⟩) (xs.length / 64+1) cf):=by
       have:=(i5 w2.heap.size (by simp)).trans HX2.out;simp[World.cell?,this]
     have HK:=Zh hK;have HI1:=Zh i1;have HI2:=Zh i2;have HI3:=Zh i3;have HI4:=Zh i4;have HYS:=Zh (fun _:Unit=>hys);clear hK i1 i2 i3 i4 i5 i7 hys
     gi_wp2
     refine⟨by simp,.inl ⟨_,_,rfl,run_takeDeferred HK.out,?_⟩⟩;have hgo:=grownBy_putObj' W D (.deferred none);have hrow:∀ r,some D=some r->∃ o:Obj,W.heap[r]?=some o∧o.isCells=false:=fun r e=>by cases e;exact⟨_,HK.out,rfl⟩
     have hwf:=(HH.out.inv.inv.part g o _ HE.out).2.wf;have hiff:∀ x,q1 x=true↔img (E xs (.mk 4 noneP ln hn [u])) (fun i=>q i=true) x:=fun x=>by
       rw[HI4.out x];constructor
       . rintro⟨y,_,hE⟩;exact⟨y.1,y.2.2,hE⟩
       . rintro⟨i,hqi,hE⟩;have hil:=HV.out.le i hqi;have hmem:i∈ys.map (·.1):=(by rw[HYS.out ()];exact upP_mem.2 ⟨by omega,hqi⟩);obtain⟨y,hy,rfl⟩:=List.mem_map.1 hmem;exact⟨y,hy,hE⟩
     refine⟨_,results_tmp rfl _ _ _,.slice (some ⟨gf,0,none⟩) (xs.length / 64+1) cf,q1,Γ1,rfl,HI1.out.turn hgo hrow,HI2.out.turn HI1.out hgo HH.out.le (fun r e=>⟨by cases e;have:=HB5.out.size;omega,hrow r e⟩),HI3.out.turn hgo hrow,fun x hx=>?_,hiff⟩;obtain⟨i,hqi,hE⟩:=(hiff x).1 hx;exact (E_bd hwf i x (HV.out.le i hqi) hE).2
   case stop =>
     rintro D c pre W _ _ h _;exact h.elim
end
end Go.Proofs.YtgbdanddbgomhaaGreatDoor
