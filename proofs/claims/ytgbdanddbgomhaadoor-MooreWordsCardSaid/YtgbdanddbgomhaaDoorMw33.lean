import Derived.Test.YtgbdanddbgomhaaDoorMw30
import Derived.Deep.RegionHeld
set_option linter.unusedVariables false
set_option linter.unusedSimpArgs false
namespace Go.Proofs.YtgbdanddbgomhaaDoor
open Go Go.RowKit
section
attribute [local go_sem ↓] Go.wp_at_zero Go.wp_at_succ
theorem Tryd.infoPlaces:(Tryd.prog.info? 84).map (fun i=>(i.zero,i.size,i.bytes))=some (some (.slice none 0 0),1,24):=by kernel_rfl
set_option maxRecDepth 20000 in
set_option maxHeartbeats 2000000 in
theorem zka {w:World} {B c:Nat} {xs:List Int} {A:Option Addr} {Γ:Ghost} {g o ln hn i:Nat} {u:T} (ih:EndsP u) (h:Ask w B xs A Γ) (e:Γ.F g o=some (.mk 4 noneP ln hn [u])) (hi:i<=xs.length):
   Calls Tryd.prog 95 #[.pointer (some ⟨g,o,none⟩),.slice A xs.length c,.int .i64 i] w (RetEndsP B w xs Γ (E xs (.mk 4 noneP ln hn [u]) i)):=by
 have hs56:∀ (gf:Nat) W,(binOp .eql 80 (.slice (some ⟨gf,0,none⟩) (xs.length+1) (xs.length+1)) (.slice none 0 0)).run Tryd.prog W = .ok (.bool false) W:=fun gf W=>Lib.run_eql_slice_some_nil W _ _ _ Tryd.underlying80
 have hn56:∀ W,(binOp .eql 80 (.slice none 0 0) (.slice none 0 0)).run Tryd.prog W = .ok (.bool true) W:=fun W=>Lib.run_eql_slice_nil_nil W _ _ Tryd.underlying80
 have hn60:∀ W,(binOp .eql 84 (.slice none 0 0) (.slice none 0 0)).run Tryd.prog W = .ok (.bool true) W:=fun W=>Lib.run_eql_slice_nil_nil W _ _ Tryd.underlying84
 have hlen:=h.len;have ii1:(i:Int)<((xs.length+1:Nat):Int):=(by omega);rcases (h.inv.inv.part g o _ e).2.starts with hst|⟨gf,hst,hG⟩
 . obtain⟨i0,hi0,hz0,hz1,hz2⟩:=info_parts Tryd.infoPlaces;obtain⟨w1,hr,hown,hg⟩:=run_make_full (P:=Tryd.prog) w w.heap.size 80 84 i0 _ 1 Tryd.underlying80 hi0 hz0 hz1 .i64 .i64 (xs.length+1) (by rw[hz2];omega) (by unfold maxLen;omega) (Nat.le_refl _);rw[show ((xs.length+1:Nat):Int)=(xs.length:Int)+1 by omega] at hr;rw[show (madeCells (Value.slice none 0 0).cells ((xs.length+1)*1)).toList=List.replicate (xs.length+1) (.slice none 0 0) by rw[Nat.mul_one];exact toList_madeCells_one _ _] at hown;have hp:=(h.inv.inv.part g o _ e).2;obtain⟨curp,hblk⟩:=hp.block;have hgw:=za0 hblk;have hsz:w.heap.size<w1.heap.size:=(World.ownsRow.lt hown _ rfl).2;have hb1:Below w.heap.size w w1:=(Below.refl _ _).grown hg (Nat.le_refl _) (fun j e=>by cases e);have c1:=za2 hst hb1;have f1:w1.frozen? ⟨g,o+3,none⟩=false:=by
     have hb:=(hb1.block g hgw).trans hblk;simp[World.frozen?,hb]
   have b12:w1.grownBy (w1.setCell ⟨g,o+3,none⟩ (.slice (some ⟨w.heap.size,0,none⟩) (xs.length+1) (xs.length+1))) (some g):=⟨rfl,rfl,rfl,by simp[World.setCell],fun k _ hk=>Below.heap_setCell _ _ _ _ (fun e=>hk (by rw[e]))⟩;have own2:=World.ownsRow.kept hown b12 (.inr (by simp[Value.ownBlock];omega));have hc1:(w1.setCell ⟨g,o+3,none⟩ (.slice (some ⟨w.heap.size,0,none⟩) (xs.length+1) (xs.length+1))).cell? ⟨g,o+3,none⟩=some (.slice (some ⟨w.heap.size,0,none⟩) (xs.length+1) (xs.length+1)):=World.cell?_setCell_same _ _ _ c1;have hfrom:FromOk (w1.setCell ⟨g,o+3,none⟩ (.slice (some ⟨w.heap.size,0,none⟩) (xs.length+1) (xs.length+1))) B xs Γ w.heap.size (.mk 4 noneP ln hn [u]):=by
     refine⟨?_,fun k hk=>⟨.slice none 0 0,?_,.inl rfl⟩⟩
     . rcases own2.2 with ⟨e,_⟩|⟨g',cap',cur,e,_,hg',_⟩
       . cases e
       . injection e with e
         injection e with e
         injection e with e
         rw[←e] at hg';exact⟨cur,hg'⟩
     . have:=own2.cellAt k (by omega);rw[this,List.getElem?_replicate,if_pos (by omega)]
   have hbe:Below B w (w1.setCell ⟨g,o+3,none⟩ (.slice (some ⟨w.heap.size,0,none⟩) (xs.length+1) (xs.length+1))):=(hb1.mono h.le).trans (Below.grown (Below.refl _ _) b12 (Nat.le_trans h.le (Nat.le_of_lt hsz)) (fun k ek=>by injection ek with ek;rw[←ek];exact (h.inv.inv.part g o _ e).1));have hlay:=h.inv.inv.layFrom e w.heap.size (Nat.le_refl _) h.le (fun b h1 h2=>(Below.heap_setCell _ _ _ _ h2).trans (hb1.block b h1)) (zbs (i:=0) ((hb1.block g hgw).trans hblk) ⟨g,o+3,none⟩ (.slice (some ⟨w.heap.size,0,none⟩) (xs.length+1) (xs.length+1))) (fun j hj=>(zag (by intro e;injection e with _ e;omega)).trans (hb1.cell (p:=⟨g,j,none⟩) hgw)) hc1 hst hfrom hbe;have HX:=Zh hlay.2;have HA:=Zh (h.ext hlay.2 ⟨hlay.1,fun g' e'=>Nat.lt_of_lt_of_le (h.inv.old g' e') hlay.2.below.size⟩);have HFC:=Zh hc1;have HG:Hid ((Γ.list w.heap.size (.mk 4 noneP ln hn [u])).G w.heap.size=some (.mk 4 noneP ln hn [u])):=Zh (by simp[Ghost.list]);have HE:=Zh e;obtain⟨gf,hgf⟩:∃ gf,gf=w.heap.size:=⟨_,rfl⟩;rw[←hgf] at hr HX HA HFC HG;clear hi0 hz0 hz1 hz2 hown hg hp hblk hsz hb1 b12 own2 hc1 hfrom hbe hlay h e hgw hgf;go_enter Tryd.func95,Tryd.ntmps95;obtain⟨v0,hv0,hv0c⟩:=(HA.out.inv.inv.starts gf _ HG.out).2.cells i hi;have hfc:=HFC.out;rcases hv0c with rfl | ⟨q0,hp0,hM0,hq0⟩
   . have hrep:∀ W Γ' v',Ask W B xs A Γ'->Γ'.F g o=some (.mk 4 noneP ln hn [u])->InW W xs v' (fun x=>x==i)->Calls Tryd.prog 94 #[.pointer (some ⟨g,o,none⟩),.slice A xs.length c,v'] W (RetMine B W xs Γ' (E xs (.mk 4 noneP ln hn [u]) i)):=fun W Γ' v' ha he hv=>by
       refine (zhr ih ha he hv).mono fun e w' hr=>?_
       obtain⟨v,q,Γ2,h1,h2,h3,h4,h5,h6⟩:=hr;refine⟨v,q,Γ2,h1,h2,h3,h4,h5,fun x=>(h6 x).trans ?_⟩;simp[img]
     unfold RetMine at hrep;have HREP:=Zh hrep;have HV0:=Zh hv0;have hon:=fun W=>zq4 W i xs.length (by omega) hi
     unfold RetPl at hon;have HON:=Zh hon;have HEr:=Zh (HX.out.F _ _ _ HE.out);have HGW:=Zh (HA.out.inv.inv.old HEr.out);clear hrep hv0 hon;have hv0:=HV0.out;go_wp2;have ii2:(i:Int)<(xs.length:Int)+1:=(by omega);go_region_law (first
       | (go_simp;go_at_call 34;(with_reducible refine (HON.out _).mono ?_);rintro e2 w2 ⟨v2,rfl,hv2,hb2⟩;have hb2':=zay hb2;have HB2:=Zh hb2';have HA2:=Zh (HA.out.stays hb2');have hf2:=(hb2'.cell (p:=⟨g,o+3,none⟩) HGW.out).trans hfc;have HV2:=Zh (show InW w2 xs v2 (fun x=>x==i) from⟨hv2.lower (Nat.zero_le _),fun x hx=>by have:x=i:=(by simpa using hx);omega⟩);clear hv2 hb2 hb2')
       | (go_simp;go_at_call 94;(with_reducible refine (HREP.out _ _ _ HA2.out HEr.out HV2.out).mono ?_);rintro e3 w3 ⟨v3,q3,Γ3,rfl,hi3,hx3,hm3,hle3,hq3⟩;obtain⟨g3,c3,rfl,_,_⟩:=hm3.pl.form (by omega);have hf3:=hx3.stay g o _ HEr.out 3 (.inr rfl) _ hf2 (fun ee=>by cases ee);have HG3:=Zh (hx3.G _ _ HG.out);have HI3:=Zh hi3;have HX3:=Zh hx3;have HM3:=Zh hm3;have HLE3:=Zh hle3;have HQ3:=Zh hq3;have HP3:=Zh (hx3.F _ _ _ HEr.out);obtain⟨v9,hv9,_⟩:=(hi3.inv.starts gf _ HG3.out).2.cells i hi;have HV9:=Zh hv9;obtain⟨cur9,hk9⟩:=(hi3.inv.starts gf _ HG3.out).2.block;have hfr9:w3.frozen? ⟨gf,i,none⟩=false:=(by simp[World.frozen?,hk9]);obtain⟨cur8,hk8⟩:=(hi3.inv.part g o _ HP3.out).2.block;have HNE:=Zh (zaz hk8 hk9 (by decide));have hf4:=(zag (w:=w3) (a:=⟨gf,i,none⟩) (b:=⟨g,o+3,none⟩) (v := .slice (some ⟨g3,0,none⟩) (xs.length / 64+1) c3) (fun ea=>by injection ea with e1 e2;exact HNE.out e1.symm)).trans hf3;have hs4:=World.cell?_setCell_same w3 ⟨gf,i,none⟩ (.slice (some ⟨g3,0,none⟩) (xs.length / 64+1) c3) hv9;clear hi3 hx3 hm3 hle3 hq3 hk8 hk9))
     all_goals
       go_wp2;go_ret;have hx:=(HX.out.trans (Ext.stays _ HB2.out HA.out.le)).trans HX3.out;have hpl:=HM3.out.pl;have hB:B<=w2.heap.size:=Nat.le_trans HA.out.le HB2.out.size;have hw:w.heap.size<=w2.heap.size:=Nat.le_trans HX.out.below.size HB2.out.size;refine⟨.slice (some ⟨g3,0,none⟩) (xs.length / 64+1) c3,q3,Γ3.mark (.slice (some ⟨g3,0,none⟩) (xs.length / 64+1) c3),rfl,⟨HI3.out.inv.putFrom HG3.out hi (hpl.lower hB) HQ3.out,fun g' e'=>?_⟩,Ext.put HI3.out.inv hx HG3.out (fun g' e'=>Nat.le_trans hw (World.ownsRow.lt hpl g' e').1),⟨zdk (hpl.lower (Nat.zero_le _)) (zlh HI3.out.inv HG3.out i _),HLE3.out⟩,HQ3.out⟩;rcases e' with e' | e'
       . simpa [World.setCell] using HI3.out.old g' e'
       . simpa [World.setCell] using (World.ownsRow.lt hpl g' e').2
   . have hp1:=hp0.lower (Nat.zero_le B);obtain⟨g5,c5,rfl,_,_⟩:=hp0.form (by omega);have hs60:∀ W,(binOp .eql 84 (.slice (some ⟨g5,0,none⟩) (xs.length / 64+1) c5) (.slice none 0 0)).run Tryd.prog W = .ok (.bool false) W:=fun W=>Lib.run_eql_slice_some_nil W _ _ _ Tryd.underlying84
     have HP1:=Zh hp1;have HQ0:=Zh hq0;clear hp0 hp1 hq0 hM0;go_wp2;go_ret;refine⟨_,q0,_,rfl,HA.out.inv,HX.out,⟨HP1.out,fun x hx=>?_⟩,HQ0.out⟩;exact (E_bd (HA.out.inv.inv.part g o _ (HX.out.F _ _ _ HE.out)).2.wf i x hi ((HQ0.out x).1 hx)).2
 . have HA:=Zh h;have HX:=Zh (Ext.refl B w Γ);have HFC:=Zh hst;have HG:=Zh hG;have HE:=Zh e;clear h e hst hG;go_enter Tryd.func95,Tryd.ntmps95;obtain⟨v0,hv0,hv0c⟩:=(HA.out.inv.inv.starts gf _ HG.out).2.cells i hi;have hfc:=HFC.out;rcases hv0c with rfl|⟨q0,hp0,hM0,hq0⟩
   . have hrep:∀ W Γ' v',Ask W B xs A Γ'->Γ'.F g o=some (.mk 4 noneP ln hn [u])->InW W xs v' (fun x=>x==i)->Calls Tryd.prog 94 #[.pointer (some ⟨g,o,none⟩),.slice A xs.length c,v'] W (RetMine B W xs Γ' (E xs (.mk 4 noneP ln hn [u]) i)):=fun W Γ' v' ha he hv=>by
       refine (zhr ih ha he hv).mono fun e w' hr=>?_
       obtain⟨v,q,Γ2,h1,h2,h3,h4,h5,h6⟩:=hr;refine⟨v,q,Γ2,h1,h2,h3,h4,h5,fun x=>(h6 x).trans ?_⟩;simp[img]
     unfold RetMine at hrep;have HREP:=Zh hrep;have HV0:=Zh hv0;have hon:=fun W=>zq4 W i xs.length (by omega) hi
     unfold RetPl at hon;have HON:=Zh hon;have HEr:=Zh (HX.out.F _ _ _ HE.out);have HGW:=Zh (HA.out.inv.inv.old HEr.out);clear hrep hv0 hon;have hv0:=HV0.out;go_wp2;have ii2:(i:Int)<(xs.length:Int)+1:=(by omega);go_region_law (first
       | (go_simp;go_at_call 34;(with_reducible refine (HON.out _).mono ?_);rintro e2 w2 ⟨v2,rfl,hv2,hb2⟩;have hb2':=zay hb2;have HB2:=Zh hb2';have HA2:=Zh (HA.out.stays hb2');have hf2:=(hb2'.cell (p:=⟨g,o+3,none⟩) HGW.out).trans hfc;have HV2:=Zh (show InW w2 xs v2 (fun x=>x==i) from⟨hv2.lower (Nat.zero_le _),fun x hx=>by have:x=i:=(by simpa using hx);omega⟩);clear hv2 hb2 hb2')
       | (go_simp;go_at_call 94;(with_reducible refine (HREP.out _ _ _ HA2.out HEr.out HV2.out).mono ?_);rintro e3 w3 ⟨v3,q3,Γ3,rfl,hi3,hx3,hm3,hle3,hq3⟩;obtain⟨g3,c3,rfl,_,_⟩:=hm3.pl.form (by omega);have hf3:=hx3.stay g o _ HEr.out 3 (.inr rfl) _ hf2 (fun ee=>by cases ee);have HG3:=Zh (hx3.G _ _ HG.out);have HI3:=Zh hi3;have HX3:=Zh hx3;have HM3:=Zh hm3;have HLE3:=Zh hle3;have HQ3:=Zh hq3;have HP3:=Zh (hx3.F _ _ _ HEr.out);obtain⟨v9,hv9,_⟩:=(hi3.inv.starts gf _ HG3.out).2.cells i hi;have HV9:=Zh hv9;obtain⟨cur9,hk9⟩:=(hi3.inv.starts gf _ HG3.out).2.block;have hfr9:w3.frozen? ⟨gf,i,none⟩=false:=(by simp[World.frozen?,hk9]);obtain⟨cur8,hk8⟩:=(hi3.inv.part g o _ HP3.out).2.block;have HNE:=Zh (zaz hk8 hk9 (by decide));have hf4:=(zag (w:=w3) (a:=⟨gf,i,none⟩) (b:=⟨g,o+3,none⟩) (v := .slice (some ⟨g3,0,none⟩) (xs.length / 64+1) c3) (fun ea=>by injection ea with e1 e2;exact HNE.out e1.symm)).trans hf3;have hs4:=World.cell?_setCell_same w3 ⟨gf,i,none⟩ (.slice (some ⟨g3,0,none⟩) (xs.length / 64+1) c3) hv9;clear hi3 hx3 hm3 hle3 hq3 hk8 hk9))
     all_goals
       go_wp2;go_ret;have hx:=(HX.out.trans (Ext.stays _ HB2.out HA.out.le)).trans HX3.out;have hpl:=HM3.out.pl;have hB:B<=w2.heap.size:=Nat.le_trans HA.out.le HB2.out.size;have hw:w.heap.size<=w2.heap.size:=Nat.le_trans HX.out.below.size HB2.out.size;refine⟨.slice (some ⟨g3,0,none⟩) (xs.length / 64+1) c3,q3,Γ3.mark (.slice (some ⟨g3,0,none⟩) (xs.length / 64+1) c3),rfl,⟨HI3.out.inv.putFrom HG3.out hi (hpl.lower hB) HQ3.out,fun g' e'=>?_⟩,Ext.put HI3.out.inv hx HG3.out (fun g' e'=>Nat.le_trans hw (World.ownsRow.lt hpl g' e').1),⟨zdk (hpl.lower (Nat.zero_le _)) (zlh HI3.out.inv HG3.out i _),HLE3.out⟩,HQ3.out⟩;rcases e' with e' | e'
       . simpa [World.setCell] using HI3.out.old g' e'
       . simpa [World.setCell] using (World.ownsRow.lt hpl g' e').2
   . have hp1:=hp0.lower (Nat.zero_le B);obtain⟨g5,c5,rfl,_,_⟩:=hp0.form (by omega);have hs60:∀ W,(binOp .eql 84 (.slice (some ⟨g5,0,none⟩) (xs.length / 64+1) c5) (.slice none 0 0)).run Tryd.prog W = .ok (.bool false) W:=fun W=>Lib.run_eql_slice_some_nil W _ _ _ Tryd.underlying84
     have HP1:=Zh hp1;have HQ0:=Zh hq0;clear hp0 hp1 hq0 hM0;go_wp2;go_ret;refine⟨_,q0,_,rfl,HA.out.inv,HX.out,⟨HP1.out,fun x hx=>?_⟩,HQ0.out⟩;exact (E_bd (HA.out.inv.inv.part g o _ (HX.out.F _ _ _ HE.out)).2.wf i x hi ((HQ0.out x).1 hx)).2
end
section
open Go Go.RowKit Go.Shelf
attribute [local go_sem] Oper.semAt_some
theorem zkc {W:World} {k:Nat} {o:Obj} (hk:W.heap[k]?=some o) (ho:o.isCells=false):Still W k:=by
 refine⟨za0 hk,fun cur e=>?_,fun cur e=>?_⟩
 . rw[hk] at e;injection e with e
   rw[e] at ho;cases ho
 . rw[hk] at e;injection e with e
   rw[e] at ho;cases ho
theorem zqz {B N:Nat} {W W':World} {Γ Γ':Ghost} (x:Ext B W W' Γ Γ'):KeepsFrom N W W':=⟨x.below.size,fun k o _ hk ho=>(x.still k (zkc hk ho)).trans hk⟩
set_option maxRecDepth 20000 in
set_option maxHeartbeats 2000000 in
theorem zuu {w:World} {B c:Nat} {xs:List Int} {A:Option Addr} {Γ:Ghost} {g o ln hn:Nat} {u:T} {v:Value} {q:Nat->Bool} (ih:EndsP u) (h:Ask w B xs A Γ) (e:Γ.F g o=some (.mk 4 noneP ln hn [u])) (hv:InW w xs v q):
   Calls Tryd.prog 65 #[.pointer (some ⟨g,o,none⟩),.slice A xs.length c,v] w (RetMine B w xs Γ (img (E xs (.mk 4 noneP ln hn [u])) fun i=>q i=true)):=by
 have hm:xs.length / 64+1<=1000000:=(by have:=h.len;omega);have hm0:0<xs.length / 64+1:=(by omega);obtain⟨gs,cs,rfl,_,hgs⟩:=hv.pl.form (by omega);have hp:=(h.inv.inv.part g o _ e).2;obtain⟨a,ha1,ha2⟩:=hp.asked;obtain⟨curp,hpb⟩:=hp.block;have hgw:=za0 hpb;have hfz:w.frozen? ⟨g,o+2,none⟩=false:=(by simp[World.frozen?,hpb]);have hlen:=h.len;have HH:=Zh h;have HE:=Zh e;have HV:=Zh hv;have hb2:Below w.heap.size w ((w.alloc (.cells #[.pointer (some ⟨g,o,none⟩)] 142)).alloc (.cells #[.slice A xs.length c] 22)):=((Below.refl _ _).alloc (Nat.le_refl _) _).alloc (by simp) _;have k2:=(hb2.cell (p:=⟨g,o+2,none⟩) hgw).trans ha1;have HB2:=Zh hb2;have HNW:=Zh (fun w=>zco w xs.length (by omega));unfold RetPl at HNW;have hmx:Tryd.prog.follows .mixedOrders=true:=(by kernel_rfl);refine (callsIn_wide (n:=3)).1 ?_;refine callsIn_of_wp_marks Tryd.func65 rfl trivial ?_ rfl;simp only[Tryd.ntmps65,List.size_toArray,List.length_cons,List.length_nil,Nat.reduceAdd,Nat.reduceSub,Array.replicate_succ,Array.replicate_zero,List.push_toArray,List.append_toArray,List.nil_append,List.cons_append];clear h e hv hp hb2 ha1
 gi_wp2
 refine wpIn_wide.2 ?_
 by_cases hal:a<=xs.length
 . go_quiet (fail);have hb1:=below_drewN HB2.out nq;have hk:=(HH.out.stays hb1).inv.inv.ask HE.out (a+1) (by omega);rw[show ((a+1:Nat):Int)=(a:Int)+1 by omega] at hk;have hx:=(Ext.stays Γ hb1 HH.out.le).trans hk.2;have ha:=HH.out.ext hx ⟨hk.1,fun g' e'=>Nat.lt_of_lt_of_le (HH.out.inv.old g' e') hx.below.size⟩;have HREP:=Zh (fun cc=>zhr (c:=cc) ih ha HE.out (HV.out.ext hx));unfold RetMine at HREP;have HX:=Zh hx;clear hb1 hk hx ha
   gi_wp2_with (refine⟨trivial,?_⟩;gi_at_call 94;(with_reducible refine (callsIn_wide.2 (HREP.out _)).mono ?_);rintro e1 w2 ⟨v2,q2,Γ2,rfl,hi2,hx2,hm2,hle2,hq2⟩;have HI2:=Zh hi2;have HX2:=Zh hx2;have HM2:=Zh hm2;have HLE2:=Zh hle2;have HQ2:=Zh hq2;clear hi2 hx2 hm2 hle2 hq2)
   have hw:=HX.out.below.size;exact⟨_,results_tmp rfl _ _ _,v2,q2,Γ2,rfl,HI2.out,HX.out.trans HX2.out,⟨HM2.out.pl.lower hw,HM2.out.free⟩,HLE2.out,HQ2.out⟩
 . have hai:¬ ((a:Int)<=(xs.length:Int)):=(by omega);go_quiet (fail)
   gi_wp2_with (refine⟨trivial,?_⟩;first
     | (gi_at_call 63;refine (callsIn_wide.2 (HNW.out _)).mono ?_;rintro e1 w2 ⟨v2,rfl,hv2,hb2⟩;obtain⟨gf,cf,rfl,hgf1,hgf2⟩:=hv2.form hm0;have HV2:=Zh hv2;clear hv2)
     | (gi_at_call 93;refine (zuo _ _ _ _ _).mono ?_;rintro e1 w3 ⟨rfl,rfl⟩))
   have hbq:=below_drewN HB2.out nq;generalize hgW1:((w.alloc (.cells #[.pointer (some ⟨g,o,none⟩)] 142)).alloc (.cells #[.slice A xs.length c] 22)).drewN nq=W1 at *;have s1:W1.heap.size=w.heap.size+2:=(by rw[←hgW1];simp);have z0:W1.heap[w.heap.size]?=some (.cells #[.pointer (some ⟨g,o,none⟩)] 142 (0,0)):=by
     rw[←hgW1];exact (Below.heap_alloc _ _ _ (by simp)).trans (World.alloc_heap_new w _)
   have z1:W1.heap[w.heap.size+1]?=some (.cells #[.slice A xs.length c] 22 (0,0)):=by
     rw[←hgW1];have:=World.alloc_heap_new (w.alloc (.cells #[.pointer (some ⟨g,o,none⟩)] 142)) (.cells #[.slice A xs.length c] 22)
     rwa [World.size_alloc] at this
   have hs2:=hb2.size;rw[s1] at hs2 hgf1;have y0:=(hb2.block w.heap.size (by omega)).trans z0;have y1:=(hb2.block (w.heap.size+1) (by omega)).trans z1;have hBw2:Below w.heap.size w w2:=hbq.trans (hb2.mono (by omega));obtain⟨W5,hW5⟩:∃ W5,W5=((w2.alloc (.cells #[.slice (some ⟨gf,0,none⟩) (xs.length / 64+1) cf] 84)).alloc (.cells #[.slice (some ⟨gs,0,none⟩) (xs.length / 64+1) cs] 84)):=⟨_,rfl⟩;rw[←hW5];have s5:W5.heap.size=w2.heap.size+2:=(by rw[hW5];simp);have b25:Below w2.heap.size w2 W5:=(by rw[hW5];exact ((Below.refl _ _).alloc (Nat.le_refl _) _).alloc (by simp) _);have hB5:Below w.heap.size w W5:=hBw2.trans (b25.mono (by omega));have x0:=(b25.block w.heap.size (by omega)).trans y0;have x1:=(b25.block (w.heap.size+1) (by omega)).trans y1;have x2:W5.heap[w2.heap.size]?=some (.cells #[.slice (some ⟨gf,0,none⟩) (xs.length / 64+1) cf] 84 (0,0)):=by
     rw[hW5];exact (Below.heap_alloc _ _ _ (by simp)).trans (World.alloc_heap_new w2 _)
   have q3:W5.cell? ⟨w2.heap.size+1,0,none⟩=some (.slice (some ⟨gs,0,none⟩) (xs.length / 64+1) cs):=by
     rw[hW5];have:=World.cell?_alloc_new (w2.alloc (.cells #[.slice (some ⟨gf,0,none⟩) (xs.length / 64+1) cf] 84)) #[.slice (some ⟨gs,0,none⟩) (xs.length / 64+1) cs] 84 0;rw[World.size_alloc] at this;exact this
   have hmine5:Mine w W5 B Γ (.slice (some ⟨gf,0,none⟩) (xs.length / 64+1) cf) (xs.length / 64+1) noneP:=Mine.new HH.out.inv ((HV2.out.stays b25).lower (by rw[s1];omega)) (Nat.le_refl _);have hv5:=HV.out.stays hB5;have hask5:=HH.out.stays hB5;have HA5:=Zh hask5;have HB5:=Zh hB5;have HM5:=Zh hmine5;have HX0:=Zh x0;have HX1:=Zh x1;have HX2:=Zh x2;have hq:=zk0 2 (by omega) (w2.heap.size+1) gs (xs.length / 64+1) cs 0 q hm W5 (by omega) q3 hv5.pl (by omega) HA5.out.tab;have e1:=enters_of Tryd.func108 (by kernel_rfl) rfl;have hkb:=zws (w:=W5) (g:=gs) (by omega) HA5.out.tab.1;obtain⟨I,hI⟩:∃ I:List (UpAt q (64*(xs.length / 64+1)))->World->Prop,I=(fun pre W=>∃ Γ' q',InvM W B xs Γ'∧Ext B w W Γ Γ'∧Mine w W B Γ' (.slice (some ⟨gf,0,none⟩) (xs.length / 64+1) cf) (xs.length / 64+1) q'∧(∀ x,q' x=true↔∃ y,y∈pre∧E xs (.mk 4 noneP ln hn [u]) y.1 x)∧(∀ b,(b=w.heap.size∨b=w.heap.size+1∨b=w2.heap.size)->W.heap[b]?=W5.heap[b]?)∧W5.heap.size<=W.heap.size∧∀ t,Γ'.G w2.heap.size≠some t):=⟨_,rfl⟩;have hI1:OwnFrom W5.heap.size I:=by
     rw[hI];rintro pre W W' row ⟨Γ',q',i1,i2,i3,i4,i5,i6,i7⟩ hg hr;have hr2:∀ r,row=some r->∃ o:Obj,W.heap[r]?=some o∧o.isCells=false:=fun r e=>(hr r e).2
     refine⟨Γ',q',i1.turn hg hr2,i2.turn i1 hg HH.out.le (fun r e=>⟨by have:=(hr r e).1;omega,hr2 r e⟩),i3.turn hg hr2,i4,fun b hb=>(hg.block b (by omega) (fun er=>by have:=(hr b er.symm).1;omega)).trans (i5 b hb),Nat.le_trans i6 hg.size,i7⟩
   have hI0:I [] W5:=by
     rw[hI];refine⟨Γ,noneP,HA5.out.inv,Ext.stays Γ HB5.out HH.out.le,HM5.out,fun x=>by simp[noneP],fun _ _=>rfl,Nat.le_refl _,fun t ht=>?_⟩;have:=HH.out.inv.inv.oldG ht;omega
   have HI:=Zh (fun _:Unit=>hI);clear hI hW5 z0 z1 y0 y1 x0 x1 x2 hgW1 hb2 hbq hBw2 b25 hB5 hmine5 hv5 hask5 k2 hfz hpb;refine wpIn_rangeFunc_ownG (F:=Fence.wide) (n:=3) rfl (by decide) (gf:=108) (lb:=#[.pointer (some ⟨w2.heap.size+1,0,none⟩)]) rfl trivial e1 hq KpW.trans hkb (Below.refl _ _) (fun _=>rfl)
     I (fun _ _ _=>False) hI1 (fun _ _ _ _ _ hs _ _=>hs) hI0
     (fun x=>{tmps:=#[.pointer (some ⟨g,o,none⟩),.slice A xs.length c,.slice (some ⟨gs,0,none⟩) (xs.length / 64+1) cs,.pointer (some ⟨w.heap.size,0,none⟩),.pointer (some ⟨w.heap.size+1,0,none⟩),undef,.slice none 0 0,.pointer (some ⟨w2.heap.size,0,none⟩),.int .i64 (x.1:Int),.pointer (some ⟨g,o,none⟩),.pointer (some ⟨g,o,none⟩),.pointer (some ⟨g,o+2,none⟩),.int .i64 a,.slice A xs.length c,.int .i64 xs.length,.bool false,undef,undef,undef,undef,undef,undef,undef,undef,undef,undef,undef,.slice A xs.length c,.int .i64 xs.length,.slice (some ⟨gf,0,none⟩) (xs.length / 64+1) cf,.slice (some ⟨gs,0,none⟩) (xs.length / 64+1) cs,.func (.func 108) #[] #[.pointer (some ⟨w2.heap.size+1,0,none⟩)],.int .i64 (x.1:Int),undef,undef,undef,undef,undef,undef,undef],defers:=[]}) ?assign ?body ?done ?stop
   case assign =>
     clear hI0 hI1 hq hkb e1;intro l x W K hK
     gi_wp2
     exact hK
   case body =>
     clear hI0 hI1 hq hkb e1;intro l pre x W hi hlt;rw[HI.out ()] at hi;obtain⟨Γ1,q1,i1,i2,i3,i4,i5,i6,i7⟩:=hi;obtain⟨y,hy⟩:∃ y:Nat,y=x.1:=⟨_,rfl⟩;rw[←hy];have hle:y<=xs.length:=HV.out.le y (by rw[hy];exact x.2.2);have c3:W.cell? ⟨w.heap.size,0,none⟩=some (.pointer (some ⟨g,o,none⟩)):=by
       have:=(i5 w.heap.size (by simp)).trans HX0.out;simp[World.cell?,this]
     have c4:W.cell? ⟨w.heap.size+1,0,none⟩=some (.slice A xs.length c):=by
       have:=(i5 (w.heap.size+1) (by simp)).trans HX1.out;simp[World.cell?,this]
     have c7:W.cell? ⟨w2.heap.size,0,none⟩=some (.slice (some ⟨gf,0,none⟩) (xs.length / 64+1) cf):=by
       have:=(i5 w2.heap.size (by simp)).trans HX2.out;simp[World.cell?,this]
     have hdr:Below W.heap.size W W.drew:=(Below.refl _ _).drew;have hleW:B<=W.heap.size:=Nat.le_trans HH.out.le i2.below.size;have hask:=(HH.out.ext i2 i1).stays hdr;have htf:=zka (c:=c) ih hask (i2.F _ _ _ HE.out) hle;unfold RetEndsP at htf;have HTF:=Zh htf;have HI1:=Zh i1;have HI2:=Zh i2;have HI3:=Zh i3;have HI4:=Zh i4;have HI5:=Zh i5;have HI7:=Zh i7;have HLW:=Zh hleW;have HDR:=Zh hdr;have HY:=Zh (fun _:Unit=>hy);clear i1 i2 i3 i4 i5 i7 hdr hask htf hy hleW hlt;have hd:1<=3-1-1:=by decide
     gi_wp2
     refine wpIn_region_any hmx (zbo (by kernel_rfl) (by rintro⟨_,_,h⟩;exact h) _ _ _ _ (wpAny_of_held (S:=fun w'=>w'.cell? ⟨w2.heap.size,0,none⟩=some (.slice (some ⟨gf,0,none⟩) (xs.length / 64+1) cf)∧w'.cell? ⟨w.heap.size,0,none⟩=some (.pointer (some ⟨g,o,none⟩))∧w'.cell? ⟨w.heap.size+1,0,none⟩=some (.slice A xs.length c)) _ _ _ _ ?_));change wpAnyH _ _ _ _ _ _ _ _ (World.drew _);refine wpAnyH_take (i:=0) (v := .slice (some ⟨gf,0,none⟩) (xs.length / 64+1) cf) rfl (by kernel_rfl) (by kernel_rfl) (by kernel_rfl) (fun _ _ _ h=>h) (Or.inl ⟨by rfl,fun w' hS=>by obtain⟨t1,t2,t3⟩:=hS;go_simp⟩) ⟨c7,c3,c4⟩ ?_;refine wpAnyH_take (i:=1) (v := .pointer (some ⟨g,o,none⟩)) rfl (by kernel_rfl) (by kernel_rfl) (by kernel_rfl) (fun _ _ _ h=>h) (Or.inl ⟨by rfl,fun w' hS=>by obtain⟨t1,t2,t3⟩:=hS;go_simp⟩) ⟨c7,c3,c4⟩ ?_;refine wpAnyH_take (i:=2) (v := .slice A xs.length c) rfl (by kernel_rfl) (by kernel_rfl) (by kernel_rfl) (fun _ _ _ h=>h) (Or.inl ⟨by rfl,fun w' hS=>by obtain⟨t1,t2,t3⟩:=hS;go_simp⟩) ⟨c7,c3,c4⟩ ?_;refine wpAnyH_take (i:=3) (v := .int .i64 (y:Int)) rfl (by kernel_rfl) (by kernel_rfl) (by kernel_rfl) (fun _ _ _ h=>h) (Or.inl ⟨by rfl,fun w' hS=>by go_simp⟩) ⟨c7,c3,c4⟩ ?_;refine wpAnyH_ready (rs:=[4]) (by kernel_rfl) (by simp) (AllReadyH.cons rfl (fun K hK=>?_) AllReadyH.nil);go_simp;go_at_call 95
     with_reducible refine HTF.out.mono ?_
     rintro e1 wa ⟨v2,q2,Γ2,rfl,hi2,hx2,hv2,hq2⟩;have b0:=(hx2.still w.heap.size (zb2 (w:=W.drew) ((HI5.out w.heap.size (by simp)).trans HX0.out) (by decide) (by decide))).trans ((HI5.out w.heap.size (by simp)).trans HX0.out);have b1:=(hx2.still (w.heap.size+1) (zb2 (w:=W.drew) ((HI5.out (w.heap.size+1) (by simp)).trans HX1.out) (by decide) (by decide))).trans ((HI5.out (w.heap.size+1) (by simp)).trans HX1.out);have b2:=(hx2.box w2.heap.size _ ((HI5.out w2.heap.size (by simp)).trans HX2.out) HI7.out).trans ((HI5.out w2.heap.size (by simp)).trans HX2.out);have HXB:=Zh ((HI2.out.trans (Ext.stays Γ1 HDR.out HLW.out)).trans hx2);have HMA:=Zh ((HI3.out.kept HDR.out).ext hx2);have HI2':=Zh hi2;have HX2':=Zh hx2;have HV2':=Zh hv2;have HQ2':=Zh hq2;have HB0:=Zh b0;have HB1:=Zh b1;have HB2':=Zh b2;clear hi2 hx2 hv2 hq2 b0 b1 b2;refine hK.out _ _ ⟨by simp[World.cell?,HB2'.out],by simp[World.cell?,HB0.out],by simp[World.cell?,HB1.out]⟩ (fun hHeld=>?_);clear hHeld hK K;have hjo:=zer wa w.heap.size 0 (xs.length / 64+1) _ _ q1 q2 HMA.out.pl HV2'.out.pl HXB.out.below.size hm0 hm;unfold RetOwn at hjo;have HJO:=Zh hjo;clear hjo;refine wpAnyH_ready (rs:=[5]) (by kernel_rfl) (by simp) (AllReadyH.cons rfl (fun K hK=>?_) AllReadyH.nil);go_simp;go_at_call 64
     with_reducible refine HJO.out.mono ?_
     rintro e1 wb ⟨rfl,hv7,hg7⟩;obtain⟨j1,j2,j3⟩:=HMA.out.set hm0 HI2'.out HXB.out hv7 hg7 HH.out.le;have hrow:∀ j,(Value.slice (some ⟨gf,0,none⟩) (xs.length / 64+1) cf).ownBlock=some j->j=gf:=fun j e=>by cases e;rfl
     have hblk:∀ b,b<wa.heap.size->b≠gf->wb.heap[b]?=wa.heap[b]?:=fun b h1 h2=>hg7.block b h1 (fun e=>h2 (hrow b e.symm))
     have hsa:=HX2'.out.below.size;have hsa':W.heap.size<=wa.heap.size:=hsa;have k0:=(hblk w.heap.size (by omega) (by omega)).trans HB0.out;have k1:=(hblk (w.heap.size+1) (by omega) (by omega)).trans HB1.out;have k2:=(hblk w2.heap.size (by omega) (by omega)).trans HB2'.out;refine hK.out _ _ ⟨by simp[World.cell?,k2],by simp[World.cell?,k0],by simp[World.cell?,k1]⟩ (fun hHeld=>?_);clear hHeld hK K;refine wpAnyH_done (by kernel_rfl) ?_ _;have htB:=HH.out.tabB;have hleB:=HH.out.le;have hgsb:∃ cur,W.heap[gs]?=some (.cells cur 24 (0,0)):=by
       rcases (HV.out.ext HI2.out).pl.2 with ⟨e,_⟩|⟨g',cap',cur,e,_,hg',_⟩
       . cases e
       . injection e with e
         injection e with e
         injection e with e
         rw[←e] at hg';exact⟨cur,hg'⟩
     obtain⟨curs,hgsb⟩:=hgsb;refine⟨(((KeepsOthers.drew W).from _).trans (zqz HX2'.out)).trans (KeepsFrom.of_grownBy hg7 fun j e=>by have:=hrow j e;omega),⟨Nat.le_trans hsa' hg7.size,(hblk gs (by omega) (by omega)).trans (HX2'.out.still gs (zb2 (w:=W.drew) hgsb (by decide) (by decide))),(hblk _ (by omega) (by omega)).trans (HX2'.out.below.block _ htB)⟩,?_⟩;rw[HI.out ()];refine⟨Γ2,orP q1 q2,j1,j2,j3,fun z=>?_,fun b hb=>?_,Nat.le_trans i6 (Nat.le_trans hsa' hg7.size),fun t ht=>?_⟩
     . have e1:=HI4.out z;have e2:=HQ2'.out z;simp only[orP,Bool.or_eq_true,e1,e2,List.mem_append,List.mem_singleton];constructor
       . rintro (⟨y',h1,h2⟩|h2)
         . exact⟨y',.inl h1,h2⟩
         . exact⟨x,.inr rfl,by rw[←HY.out ()];exact h2⟩
       . rintro⟨y',h1|h1,h2⟩
         . exact .inl ⟨y',h1,h2⟩
         . subst h1;exact .inr (by rw[HY.out ()];exact h2)
     . rcases hb with rfl|rfl|rfl
       . exact k0.trans HX0.out.symm
       . exact k1.trans HX1.out.symm
       . exact k2.trans HX2.out.symm
     . rcases HX2'.out.newG _ _ ht with h1|h1
       . exact HI7.out t h1
       . have h2:W.heap.size<=w2.heap.size:=h1;omega
   case done =>
     clear hI0 hI1 hq hkb e1;intro D ys W hD hys hi hK;rw[HI.out ()] at hi;obtain⟨Γ1,q1,i1,i2,i3,i4,i5,i6,i7⟩:=hi;have r2:W.cell? ⟨w2.heap.size,0,none⟩=some (.slice (some ⟨gf,0,none⟩) (xs.length / 64+1) cf):=by
       have:=(i5 w2.heap.size (by simp)).trans HX2.out;simp[World.cell?,this]
     have HK:=Zh hK;have HI1:=Zh i1;have HI2:=Zh i2;have HI3:=Zh i3;have HI4:=Zh i4;have HYS:=Zh (fun _:Unit=>hys);clear hK i1 i2 i3 i4 i5 i7 hys
     gi_wp2
     refine⟨by simp,.inl ⟨_,_,rfl,run_takeDeferred HK.out,?_⟩⟩;have hgo:=grownBy_putObj' W D (.deferred none);have hrow:∀ r,some D=some r->∃ o:Obj,W.heap[r]?=some o∧o.isCells=false:=fun r e=>by cases e;exact⟨_,HK.out,rfl⟩
     have hwf:=(HH.out.inv.inv.part g o _ HE.out).2.wf;have hiff:∀ x,q1 x=true↔img (E xs (.mk 4 noneP ln hn [u])) (fun i=>q i=true) x:=fun x=>by
       rw[HI4.out x];constructor
       . rintro⟨y,_,hE⟩;exact⟨y.1,y.2.2,hE⟩
       . rintro⟨i,hqi,hE⟩;have hil:=HV.out.le i hqi;have hmem:i∈ys.map (·.1):=(by rw[HYS.out ()];exact upP_mem.2 ⟨by omega,hqi⟩);obtain⟨y,hy,rfl⟩:=List.mem_map.1 hmem;exact⟨y,hy,hE⟩
     refine⟨_,results_tmp rfl _ _ _,.slice (some ⟨gf,0,none⟩) (xs.length / 64+1) cf,q1,Γ1,rfl,HI1.out.turn hgo hrow,HI2.out.turn HI1.out hgo HH.out.le (fun r e=>⟨by cases e;have:=HB5.out.size;omega,hrow r e⟩),HI3.out.turn hgo hrow,fun x hx=>?_,hiff⟩;obtain⟨i,hqi,hE⟩:=(hiff x).1 hx;exact (E_bd hwf i x (HV.out.le i hqi) hE).2
   case stop =>
     rintro D c pre W _ _ h _;exact h.elim
end
end Go.Proofs.YtgbdanddbgomhaaDoor
