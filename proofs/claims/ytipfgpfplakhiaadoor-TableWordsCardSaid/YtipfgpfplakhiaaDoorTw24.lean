import Derived.Test.YtipfgpfplakhiaaDoorTw18
import Derived.Deep.RegionHeld
set_option linter.unusedVariables false
set_option linter.unusedSimpArgs false
set_option maxRecDepth 20000
set_option maxHeartbeats 4000000
namespace Go.Proofs.YtipfgpfplakhiaaDoor
open Go Go.RowKit
section
attribute [local go_sem ↓] Go.wp_at_zero Go.wp_at_succ
theorem Tryd.infoPlaces:(Tryd.prog.info? 103).map (fun i=>(i.zero,i.size,i.bytes))=some (some (.slice none 0 0),1,24):=by kernel_rfl
theorem zph {w:World} {B c:Nat} {xs:List Int} {A:Option Addr} {Γ:Ghost} {g o ln hn i:Nat} {u:T} (ih:zne u) (h:Ask w B xs A Γ) (e:Γ.F g o=some (.mk 4 za9 ln hn [u])) (hi:i<=xs.length):
 Calls Tryd.prog 71 #[.pointer (some ⟨g,o,none⟩),.slice A xs.length c,.int .i64 i] w (RetEndsP B w xs Γ (E xs (.mk 4 za9 ln hn [u]) i)):=by
 have hs56:∀ (gf:Nat) W,(binOp .eql 99 (.slice (some ⟨gf,0,none⟩) (xs.length+1) (xs.length+1)) (.slice none 0 0)).run Tryd.prog W = .ok (.bool false) W:=fun gf W=>Lib.run_eql_slice_some_nil W _ _ _ Tryd.underlying99
 have hn56:∀ W,(binOp .eql 99 (.slice none 0 0) (.slice none 0 0)).run Tryd.prog W = .ok (.bool true) W:=fun W=>Lib.run_eql_slice_nil_nil W _ _ Tryd.underlying99
 have hn60:∀ W,(binOp .eql 103 (.slice none 0 0) (.slice none 0 0)).run Tryd.prog W = .ok (.bool true) W:=fun W=>Lib.run_eql_slice_nil_nil W _ _ Tryd.underlying103
 have hlen:=h.len;have ii1:(i:Int)<((xs.length+1:Nat):Int):=yie;rcases (h.inv.inv.part g o _ e).2.starts with hst|⟨gf,hst,hG⟩
 .obtain⟨i0,hi0,hz0,hz1,hz2⟩:=info_parts Tryd.infoPlaces;obtain⟨w1,hr,hown,hg⟩:=run_make_full (P:=Tryd.prog) w w.heap.size 99 103 i0 _ 1 Tryd.underlying99 hi0 hz0 hz1 .i64 .i64 (xs.length+1) (by rw[hz2];omega) yin (yez _);rw[show ((xs.length+1:Nat):Int)=(xs.length:Int)+1 by omega] at hr;rw[show (madeCells (Value.slice none 0 0).cells ((xs.length+1)*1)).toList=List.replicate (xs.length+1) (.slice none 0 0) by rw[ygl];exact toList_madeCells_one _ _] at hown;have hp:=(h.inv.inv.part g o _ e).2;obtain⟨curp,hblk⟩:=hp.block;have hgw:=za0 hblk;have hsz:w.heap.size<w1.heap.size:=(yf5 hown _ rfl).2;have hb1:Below w.heap.size w w1:=(yf6 _ _).grown hg (yez _) (fun j e=>by cases e);have c1:=za4 hst hb1;have f1:w1.frozen? ⟨g,o+3,none⟩=false:=by
   have hb:=(hb1.block g hgw).trans hblk;simp[World.frozen?,hb]
  have b12:w1.grownBy (w1.setCell ⟨g,o+3,none⟩ (.slice (some ⟨w.heap.size,0,none⟩) (xs.length+1) (xs.length+1))) (some g):=⟨rfl,rfl,rfl,by simp[World.setCell],fun k _ hk=>yf9 _ _ _ _ (fun e=>hk yj3)⟩;have own2:=World.ownsRow.kept hown b12 (.inr (by simp[Value.ownBlock];omega));have hc1:(w1.setCell ⟨g,o+3,none⟩ (.slice (some ⟨w.heap.size,0,none⟩) (xs.length+1) (xs.length+1))).cell? ⟨g,o+3,none⟩=some (.slice (some ⟨w.heap.size,0,none⟩) (xs.length+1) (xs.length+1)):=ygx _ _ _ c1;have hfrom:FromOk (w1.setCell ⟨g,o+3,none⟩ (.slice (some ⟨w.heap.size,0,none⟩) (xs.length+1) (xs.length+1))) B xs Γ w.heap.size (.mk 4 za9 ln hn [u]):=by
   refine⟨?_,fun k hk=>⟨.slice none 0 0,?_,.inl rfl⟩⟩
   .rcases own2.2 with ⟨e,_⟩|⟨g',cap',cur,e,_,hg',_⟩
    .cases e
    .injection e with e
     injection e with e
     injection e with e
     rw[←e] at hg';exact⟨cur,hg'⟩
   .have:=own2.cellAt k yie;rw[this,List.getElem?_replicate,if_pos yie]
  have hbe:Below B w (w1.setCell ⟨g,o+3,none⟩ (.slice (some ⟨w.heap.size,0,none⟩) (xs.length+1) (xs.length+1))):=(hb1.mono h.le).trans (Below.grown (yf6 _ _) b12 (yfa h.le (yhh hsz)) (fun k ek=>by injection ek with ek;rw[←ek];exact (h.inv.inv.part g o _ e).1));have hlay:=h.inv.inv.layFrom e w.heap.size (yez _) h.le (fun b h1 h2=>(yf9 _ _ _ _ h2).trans (hb1.block b h1)) (zdj (i:=0) ((hb1.block g hgw).trans hblk) ⟨g,o+3,none⟩ (.slice (some ⟨w.heap.size,0,none⟩) (xs.length+1) (xs.length+1))) (fun j hj=>(zaz (by intro e;injection e with _ e;omega)).trans (hb1.cell (p:=⟨g,j,none⟩) hgw)) hc1 hst hfrom hbe;have HX:=Zh hlay.2;have HA:=Zh (h.ext hlay.2 ⟨hlay.1,fun g' e'=>yff (h.inv.old g' e') hlay.2.below.size⟩);have HFC:=Zh hc1;have HG:Hid ((Γ.list w.heap.size (.mk 4 za9 ln hn [u])).G w.heap.size=some (.mk 4 za9 ln hn [u])):=Zh (by simp[Ghost.list]);have HE:=Zh e;obtain⟨gf,hgf⟩:∃ gf,gf=w.heap.size:=⟨_,rfl⟩;rw[←hgf] at hr HX HA HFC HG;clear hi0 hz0 hz1 hz2 hown hg hp hblk hsz hb1 b12 own2 hc1 hfrom hbe hlay h e hgw hgf;go_enter Tryd.func71,Tryd.ntmps71;obtain⟨v0,hv0,hv0c⟩:=(HA.o.inv.inv.starts gf _ HG.o).2.cells i hi;have hfc:=HFC.o;rcases hv0c with rfl | ⟨q0,hp0,hM0,hq0⟩
  .have hrep:∀ W Γ' v',Ask W B xs A Γ'->Γ'.F g o=some (.mk 4 za9 ln hn [u])->InW W xs v' (fun x=>x==i)->Calls Tryd.prog 70 #[.pointer (some ⟨g,o,none⟩),.slice A xs.length c,v'] W (RetMine B W xs Γ' (E xs (.mk 4 za9 ln hn [u]) i)):=fun W Γ' v' ha he hv=>by
    refine (zm7 ih ha he hv).mono fun e w' hr=>?_
    obtain⟨v,q,Γ2,h1,h2,h3,h4,h5,h6⟩:=hr;refine⟨v,q,Γ2,h1,h2,h3,h4,h5,fun x=>(h6 x).trans ?_⟩;simp[img]
   unfold RetMine at hrep;have HREP:=Zh hrep;have HV0:=Zh hv0;have hon:=fun W=>zve W i xs.length yie hi
   unfold zf2 at hon;have HON:=Zh hon;have HEr:=Zh (HX.o.F _ _ _ HE.o);have HGW:=Zh (HA.o.inv.inv.old HEr.o);clear hrep hv0 hon;have hv0:=HV0.o;go_wp2;have ii2:(i:Int)<(xs.length:Int)+1:=yie;go_region_law (first
    | (go_simp;go_at_call 31;(with_reducible refine (HON.o _).mono ?_);rintro e2 w2 ⟨v2,rfl,hv2,hb2⟩;have hb2':=zez hb2;have HB2:=Zh hb2';have HA2:=Zh (HA.o.stays hb2');have hf2:=(hb2'.cell (p:=⟨g,o+3,none⟩) HGW.o).trans hfc;have HV2:=Zh (show InW w2 xs v2 (fun x=>x==i) from⟨hv2.lower (yf8 _),fun x hx=>by have:x=i:=(by simpa using hx);omega⟩);clear hv2 hb2 hb2')
    | (go_simp;go_at_call 70;(with_reducible refine (HREP.o _ _ _ HA2.o HEr.o HV2.o).mono ?_);rintro e3 w3 ⟨v3,q3,Γ3,rfl,hi3,hx3,hm3,hle3,hq3⟩;obtain⟨g3,c3,rfl,_,_⟩:=hm3.pl.form yie;have hf3:=hx3.stay g o _ HEr.o 3 (.inr rfl) _ hf2 (fun ee=>by cases ee);have HG3:=Zh (hx3.G _ _ HG.o);have HI3:=Zh hi3;have HX3:=Zh hx3;have HM3:=Zh hm3;have HLE3:=Zh hle3;have HQ3:=Zh hq3;have HP3:=Zh (hx3.F _ _ _ HEr.o);obtain⟨v9,hv9,_⟩:=(hi3.inv.starts gf _ HG3.o).2.cells i hi;have HV9:=Zh hv9;obtain⟨cur9,hk9⟩:=(hi3.inv.starts gf _ HG3.o).2.block;have hfr9:w3.frozen? ⟨gf,i,none⟩=false:=(by simp[World.frozen?,hk9]);obtain⟨cur8,hk8⟩:=(hi3.inv.part g o _ HP3.o).2.block;have HNE:=Zh (zbu hk8 hk9 yij);have hf4:=(zaz (w:=w3) (a:=⟨gf,i,none⟩) (b:=⟨g,o+3,none⟩) (v := .slice (some ⟨g3,0,none⟩) (xs.length / 64+1) c3) (fun ea=>by injection ea with e1 e2;exact HNE.o e1.symm)).trans hf3;have hs4:=ygx w3 ⟨gf,i,none⟩ (.slice (some ⟨g3,0,none⟩) (xs.length / 64+1) c3) hv9;clear hi3 hx3 hm3 hle3 hq3 hk8 hk9))
   all_goals
    go_wp2;go_ret;have hx:=(HX.o.trans (Ext.stays _ HB2.o HA.o.le)).trans HX3.o;have hpl:=HM3.o.pl;have hB:B<=w2.heap.size:=yfa HA.o.le HB2.o.size;have hw:w.heap.size<=w2.heap.size:=yfa HX.o.below.size HB2.o.size;refine⟨.slice (some ⟨g3,0,none⟩) (xs.length / 64+1) c3,q3,Γ3.mark (.slice (some ⟨g3,0,none⟩) (xs.length / 64+1) c3),rfl,⟨HI3.o.inv.putFrom HG3.o hi (hpl.lower hB) HQ3.o,fun g' e'=>?_⟩,Ext.put HI3.o.inv hx HG3.o (fun g' e'=>yfa hw (yf5 hpl g' e').1),⟨zgs (hpl.lower (yf8 _)) (zqy HI3.o.inv HG3.o i _),HLE3.o⟩,HQ3.o⟩;rcases e' with e' | e'
    .simpa [World.setCell] using HI3.o.old g' e'
    .simpa [World.setCell] using (yf5 hpl g' e').2
  .have hp1:=hp0.lower (yf8 B);obtain⟨g5,c5,rfl,_,_⟩:=hp0.form yie;have hs60:∀ W,(binOp .eql 103 (.slice (some ⟨g5,0,none⟩) (xs.length / 64+1) c5) (.slice none 0 0)).run Tryd.prog W = .ok (.bool false) W:=fun W=>Lib.run_eql_slice_some_nil W _ _ _ Tryd.underlying103
   have HP1:=Zh hp1;have HQ0:=Zh hq0;clear hp0 hp1 hq0 hM0;go_wp2;go_ret;refine⟨_,q0,_,rfl,HA.o.inv,HX.o,⟨HP1.o,fun x hx=>?_⟩,HQ0.o⟩;exact (E_bd (HA.o.inv.inv.part g o _ (HX.o.F _ _ _ HE.o)).2.wf i x hi ((HQ0.o x).1 hx)).2
 .have HA:=Zh h;have HX:=Zh (Ext.refl B w Γ);have HFC:=Zh hst;have HG:=Zh hG;have HE:=Zh e;clear h e hst hG;go_enter Tryd.func71,Tryd.ntmps71;obtain⟨v0,hv0,hv0c⟩:=(HA.o.inv.inv.starts gf _ HG.o).2.cells i hi;have hfc:=HFC.o;rcases hv0c with rfl|⟨q0,hp0,hM0,hq0⟩
  .have hrep:∀ W Γ' v',Ask W B xs A Γ'->Γ'.F g o=some (.mk 4 za9 ln hn [u])->InW W xs v' (fun x=>x==i)->Calls Tryd.prog 70 #[.pointer (some ⟨g,o,none⟩),.slice A xs.length c,v'] W (RetMine B W xs Γ' (E xs (.mk 4 za9 ln hn [u]) i)):=fun W Γ' v' ha he hv=>by
    refine (zm7 ih ha he hv).mono fun e w' hr=>?_
    obtain⟨v,q,Γ2,h1,h2,h3,h4,h5,h6⟩:=hr;refine⟨v,q,Γ2,h1,h2,h3,h4,h5,fun x=>(h6 x).trans ?_⟩;simp[img]
   unfold RetMine at hrep;have HREP:=Zh hrep;have HV0:=Zh hv0;have hon:=fun W=>zve W i xs.length yie hi
   unfold zf2 at hon;have HON:=Zh hon;have HEr:=Zh (HX.o.F _ _ _ HE.o);have HGW:=Zh (HA.o.inv.inv.old HEr.o);clear hrep hv0 hon;have hv0:=HV0.o;go_wp2;have ii2:(i:Int)<(xs.length:Int)+1:=yie;go_region_law (first
    | (go_simp;go_at_call 31;(with_reducible refine (HON.o _).mono ?_);rintro e2 w2 ⟨v2,rfl,hv2,hb2⟩;have hb2':=zez hb2;have HB2:=Zh hb2';have HA2:=Zh (HA.o.stays hb2');have hf2:=(hb2'.cell (p:=⟨g,o+3,none⟩) HGW.o).trans hfc;have HV2:=Zh (show InW w2 xs v2 (fun x=>x==i) from⟨hv2.lower (yf8 _),fun x hx=>by have:x=i:=(by simpa using hx);omega⟩);clear hv2 hb2 hb2')
    | (go_simp;go_at_call 70;(with_reducible refine (HREP.o _ _ _ HA2.o HEr.o HV2.o).mono ?_);rintro e3 w3 ⟨v3,q3,Γ3,rfl,hi3,hx3,hm3,hle3,hq3⟩;obtain⟨g3,c3,rfl,_,_⟩:=hm3.pl.form yie;have hf3:=hx3.stay g o _ HEr.o 3 (.inr rfl) _ hf2 (fun ee=>by cases ee);have HG3:=Zh (hx3.G _ _ HG.o);have HI3:=Zh hi3;have HX3:=Zh hx3;have HM3:=Zh hm3;have HLE3:=Zh hle3;have HQ3:=Zh hq3;have HP3:=Zh (hx3.F _ _ _ HEr.o);obtain⟨v9,hv9,_⟩:=(hi3.inv.starts gf _ HG3.o).2.cells i hi;have HV9:=Zh hv9;obtain⟨cur9,hk9⟩:=(hi3.inv.starts gf _ HG3.o).2.block;have hfr9:w3.frozen? ⟨gf,i,none⟩=false:=(by simp[World.frozen?,hk9]);obtain⟨cur8,hk8⟩:=(hi3.inv.part g o _ HP3.o).2.block;have HNE:=Zh (zbu hk8 hk9 yij);have hf4:=(zaz (w:=w3) (a:=⟨gf,i,none⟩) (b:=⟨g,o+3,none⟩) (v := .slice (some ⟨g3,0,none⟩) (xs.length / 64+1) c3) (fun ea=>by injection ea with e1 e2;exact HNE.o e1.symm)).trans hf3;have hs4:=ygx w3 ⟨gf,i,none⟩ (.slice (some ⟨g3,0,none⟩) (xs.length / 64+1) c3) hv9;clear hi3 hx3 hm3 hle3 hq3 hk8 hk9))
   all_goals
    go_wp2;go_ret;have hx:=(HX.o.trans (Ext.stays _ HB2.o HA.o.le)).trans HX3.o;have hpl:=HM3.o.pl;have hB:B<=w2.heap.size:=yfa HA.o.le HB2.o.size;have hw:w.heap.size<=w2.heap.size:=yfa HX.o.below.size HB2.o.size;refine⟨.slice (some ⟨g3,0,none⟩) (xs.length / 64+1) c3,q3,Γ3.mark (.slice (some ⟨g3,0,none⟩) (xs.length / 64+1) c3),rfl,⟨HI3.o.inv.putFrom HG3.o hi (hpl.lower hB) HQ3.o,fun g' e'=>?_⟩,Ext.put HI3.o.inv hx HG3.o (fun g' e'=>yfa hw (yf5 hpl g' e').1),⟨zgs (hpl.lower (yf8 _)) (zqy HI3.o.inv HG3.o i _),HLE3.o⟩,HQ3.o⟩;rcases e' with e' | e'
    .simpa [World.setCell] using HI3.o.old g' e'
    .simpa [World.setCell] using (yf5 hpl g' e').2
  .have hp1:=hp0.lower (yf8 B);obtain⟨g5,c5,rfl,_,_⟩:=hp0.form yie;have hs60:∀ W,(binOp .eql 103 (.slice (some ⟨g5,0,none⟩) (xs.length / 64+1) c5) (.slice none 0 0)).run Tryd.prog W = .ok (.bool false) W:=fun W=>Lib.run_eql_slice_some_nil W _ _ _ Tryd.underlying103
   have HP1:=Zh hp1;have HQ0:=Zh hq0;clear hp0 hp1 hq0 hM0;go_wp2;go_ret;refine⟨_,q0,_,rfl,HA.o.inv,HX.o,⟨HP1.o,fun x hx=>?_⟩,HQ0.o⟩;exact (E_bd (HA.o.inv.inv.part g o _ (HX.o.F _ _ _ HE.o)).2.wf i x hi ((HQ0.o x).1 hx)).2
end
section
open Go Go.RowKit Go.Shelf
attribute [local go_sem] Oper.semAt_some
theorem zpj {W:World} {k:Nat} {o:Obj} (hk:W.heap[k]?=some o) (ho:o.isCells=false):Still W k:=by
 refine⟨za0 hk,fun cur e=>?_,fun cur e=>?_⟩
 .rw[hk] at e;injection e with e
  rw[e] at ho;cases ho
 .rw[hk] at e;injection e with e
  rw[e] at ho;cases ho
theorem zwj {B N:Nat} {W W':World} {Γ Γ':Ghost} (x:Ext B W W' Γ Γ'):KeepsFrom N W W':=⟨x.below.size,fun k o _ hk ho=>(x.still k (zpj hk ho)).trans hk⟩
theorem yb0 {w:World} {B c:Nat} {xs:List Int} {A:Option Addr} {Γ:Ghost} {g o ln hn:Nat} {u:T} {v:Value} {q:Nat->Bool} (ih:zne u) (h:Ask w B xs A Γ) (e:Γ.F g o=some (.mk 4 za9 ln hn [u])) (hv:InW w xs v q):
 Calls Tryd.prog 54 #[.pointer (some ⟨g,o,none⟩),.slice A xs.length c,v] w (RetMine B w xs Γ (img (E xs (.mk 4 za9 ln hn [u])) fun i=>q i=true)):=by
 have hm:xs.length / 64+1<=1000000:=(by have:=h.len;omega);have hm0:0<xs.length / 64+1:=yie;obtain⟨gs,cs,rfl,_,hgs⟩:=hv.pl.form yie;have hp:=(h.inv.inv.part g o _ e).2;obtain⟨a,ha1,ha2⟩:=hp.asked;obtain⟨curp,hpb⟩:=hp.block;have hgw:=za0 hpb;have hfz:w.frozen? ⟨g,o+2,none⟩=false:=(by simp[World.frozen?,hpb]);have hlen:=h.len;have HH:=Zh h;have HE:=Zh e;have HV:=Zh hv;have hb2:Below w.heap.size w ((w.alloc (.cells #[.pointer (some ⟨g,o,none⟩)] 139)).alloc (.cells #[.slice A xs.length c] 24)):=((yf6 _ _).alloc (yez _) _).alloc yii _;have k2:=(hb2.cell (p:=⟨g,o+2,none⟩) hgw).trans ha1;have HB2:=Zh hb2;have HNW:=Zh (fun w=>zf8 w xs.length yie);unfold zf2 at HNW;have hmx:Tryd.prog.follows .mixedOrders=true:=yih;refine (callsIn_wide (n:=3)).1 ?_;refine callsIn_of_wp_marks Tryd.func54 rfl trivial ?_ rfl;simp only[Tryd.ntmps54,yic,yg7,yh5,Nat.reduceAdd,Nat.reduceSub,yi1,yi2,yid,yi7,yhc,ygg];clear h e hv hp hb2 ha1
 gi_wp2
 refine wpIn_wide.2 ?_
 by_cases hal:a<=xs.length
 .go_quiet (fail);have hb1:=below_drewN HB2.o nq;have hk:=(HH.o.stays hb1).inv.inv.ask HE.o (a+1) yie;rw[show ((a+1:Nat):Int)=(a:Int)+1 by omega] at hk;have hx:=(Ext.stays Γ hb1 HH.o.le).trans hk.2;have ha:=HH.o.ext hx ⟨hk.1,fun g' e'=>yff (HH.o.inv.old g' e') hx.below.size⟩;have HREP:=Zh (fun cc=>zm7 (c:=cc) ih ha HE.o (HV.o.ext hx));unfold RetMine at HREP;have HX:=Zh hx;clear hb1 hk hx ha
  gi_wp2_with (refine⟨trivial,?_⟩;gi_at_call 70;(with_reducible refine (callsIn_wide.2 (HREP.o _)).mono ?_);rintro e1 w2 ⟨v2,q2,Γ2,rfl,hi2,hx2,hm2,hle2,hq2⟩;have HI2:=Zh hi2;have HX2:=Zh hx2;have HM2:=Zh hm2;have HLE2:=Zh hle2;have HQ2:=Zh hq2;clear hi2 hx2 hm2 hle2 hq2)
  have hw:=HX.o.below.size;exact⟨_,results_tmp rfl _ _ _,v2,q2,Γ2,rfl,HI2.o,HX.o.trans HX2.o,⟨HM2.o.pl.lower hw,HM2.o.free⟩,HLE2.o,HQ2.o⟩
 .have hai:¬ ((a:Int)<=(xs.length:Int)):=yie;go_quiet (fail)
  gi_wp2_with (refine⟨trivial,?_⟩;first
   | (gi_at_call 52;refine (callsIn_wide.2 (HNW.o _)).mono ?_;rintro e1 w2 ⟨v2,rfl,hv2,hb2⟩;obtain⟨gf,cf,rfl,hgf1,hgf2⟩:=hv2.form hm0;have HV2:=Zh hv2;clear hv2)
   | (gi_at_call 69;refine (yar _ _ _ _ _).mono ?_;rintro e1 w3 ⟨rfl,rfl⟩))
  have hbq:=below_drewN HB2.o nq;generalize hgW1:((w.alloc (.cells #[.pointer (some ⟨g,o,none⟩)] 139)).alloc (.cells #[.slice A xs.length c] 24)).drewN nq=W1 at *;have s1:W1.heap.size=w.heap.size+2:=(by rw[←hgW1];simp);have z0:W1.heap[w.heap.size]?=some (.cells #[.pointer (some ⟨g,o,none⟩)] 139 (0,0)):=by
   rw[←hgW1];exact (yfo _ _ _ yii).trans (yho w _)
  have z1:W1.heap[w.heap.size+1]?=some (.cells #[.slice A xs.length c] 24 (0,0)):=by
   rw[←hgW1];have:=yho (w.alloc (.cells #[.pointer (some ⟨g,o,none⟩)] 139)) (.cells #[.slice A xs.length c] 24)
   rwa [yfe] at this
  have hs2:=hb2.size;rw[s1] at hs2 hgf1;have y0:=(hb2.block w.heap.size yie).trans z0;have y1:=(hb2.block (w.heap.size+1) yie).trans z1;have hBw2:Below w.heap.size w w2:=hbq.trans (hb2.mono yie);obtain⟨W5,hW5⟩:∃ W5,W5=((w2.alloc (.cells #[.slice (some ⟨gf,0,none⟩) (xs.length / 64+1) cf] 103)).alloc (.cells #[.slice (some ⟨gs,0,none⟩) (xs.length / 64+1) cs] 103)):=⟨_,rfl⟩;rw[←hW5];have s5:W5.heap.size=w2.heap.size+2:=(by rw[hW5];simp);have b25:Below w2.heap.size w2 W5:=(by rw[hW5];exact ((yf6 _ _).alloc (yez _) _).alloc yii _);have hB5:Below w.heap.size w W5:=hBw2.trans (b25.mono yie);have x0:=(b25.block w.heap.size yie).trans y0;have x1:=(b25.block (w.heap.size+1) yie).trans y1;have x2:W5.heap[w2.heap.size]?=some (.cells #[.slice (some ⟨gf,0,none⟩) (xs.length / 64+1) cf] 103 (0,0)):=by
   rw[hW5];exact (yfo _ _ _ yii).trans (yho w2 _)
  have q3:W5.cell? ⟨w2.heap.size+1,0,none⟩=some (.slice (some ⟨gs,0,none⟩) (xs.length / 64+1) cs):=by
   rw[hW5];have:=yhk (w2.alloc (.cells #[.slice (some ⟨gf,0,none⟩) (xs.length / 64+1) cf] 103)) #[.slice (some ⟨gs,0,none⟩) (xs.length / 64+1) cs] 103 0;rw[yfe] at this;exact this
  have hmine5:Mine w W5 B Γ (.slice (some ⟨gf,0,none⟩) (xs.length / 64+1) cf) (xs.length / 64+1) za9:=Mine.new HH.o.inv ((HV2.o.stays b25).lower (by rw[s1];omega)) (yez _);have hv5:=HV.o.stays hB5;have hask5:=HH.o.stays hB5;have HA5:=Zh hask5;have HB5:=Zh hB5;have HM5:=Zh hmine5;have HX0:=Zh x0;have HX1:=Zh x1;have HX2:=Zh x2;have hq:=zp7 2 yie (w2.heap.size+1) gs (xs.length / 64+1) cs 0 q hm W5 yie q3 hv5.pl yie HA5.o.tab;have e1:=enters_of Tryd.func84 yih rfl;have hkb:=ydw (w:=W5) (g:=gs) yie HA5.o.tab.1;obtain⟨I,hI⟩:∃ I:List (UpAt q (64*(xs.length / 64+1)))->World->Prop,I=(fun pre W=>∃ Γ' q',InvM W B xs Γ'∧Ext B w W Γ Γ'∧Mine w W B Γ' (.slice (some ⟨gf,0,none⟩) (xs.length / 64+1) cf) (xs.length / 64+1) q'∧(∀ x,q' x=true↔∃ y,y∈pre∧E xs (.mk 4 za9 ln hn [u]) y.1 x)∧(∀ b,(b=w.heap.size∨b=w.heap.size+1∨b=w2.heap.size)->W.heap[b]?=W5.heap[b]?)∧W5.heap.size<=W.heap.size∧∀ t,Γ'.G w2.heap.size≠some t):=⟨_,rfl⟩;have hI1:OwnFrom W5.heap.size I:=by
   rw[hI];rintro pre W W' row ⟨Γ',q',i1,i2,i3,i4,i5,i6,i7⟩ hg hr;have hr2:∀ r,row=some r->∃ o:Obj,W.heap[r]?=some o∧o.isCells=false:=fun r e=>(hr r e).2
   refine⟨Γ',q',i1.turn hg hr2,i2.turn i1 hg HH.o.le (fun r e=>⟨by have:=(hr r e).1;omega,hr2 r e⟩),i3.turn hg hr2,i4,fun b hb=>(hg.block b yie (fun er=>by have:=(hr b er.symm).1;omega)).trans (i5 b hb),yfa i6 hg.size,i7⟩
  have hI0:I [] W5:=by
   rw[hI];refine⟨Γ,za9,HA5.o.inv,Ext.stays Γ HB5.o HH.o.le,HM5.o,fun x=>by simp[za9],fun _ _=>rfl,yez _,fun t ht=>?_⟩;have:=HH.o.inv.inv.oldG ht;omega
  have HI:=Zh (fun _:Unit=>hI);clear hI hW5 z0 z1 y0 y1 x0 x1 x2 hgW1 hb2 hbq hBw2 b25 hB5 hmine5 hv5 hask5 k2 hfz hpb;refine wpIn_rangeFunc_ownG (F:=Fence.wide) (n:=3) rfl yij (gf:=84) (lb:=#[.pointer (some ⟨w2.heap.size+1,0,none⟩)]) rfl trivial e1 hq KpW.trans hkb (yf6 _ _) (fun _=>rfl)
   I (fun _ _ _=>False) hI1 (fun _ _ _ _ _ hs _ _=>hs) hI0
   (fun x=>{tmps:=#[.pointer (some ⟨g,o,none⟩),.slice A xs.length c,.slice (some ⟨gs,0,none⟩) (xs.length / 64+1) cs,.pointer (some ⟨w.heap.size,0,none⟩),.pointer (some ⟨w.heap.size+1,0,none⟩),undef,.slice none 0 0,.pointer (some ⟨w2.heap.size,0,none⟩),.int .i64 (x.1:Int),.pointer (some ⟨g,o,none⟩),.pointer (some ⟨g,o,none⟩),.pointer (some ⟨g,o+2,none⟩),.int .i64 a,.slice A xs.length c,.int .i64 xs.length,.bool false,undef,undef,undef,undef,undef,undef,undef,undef,undef,undef,undef,.slice A xs.length c,.int .i64 xs.length,.slice (some ⟨gf,0,none⟩) (xs.length / 64+1) cf,.slice (some ⟨gs,0,none⟩) (xs.length / 64+1) cs,.func (.func 84) #[] #[.pointer (some ⟨w2.heap.size+1,0,none⟩)],.int .i64 (x.1:Int),undef,undef,undef,undef,undef,undef,undef],defers:=[]}) ?assign ?body ?done ?stop
  case assign =>
   clear hI0 hI1 hq hkb e1;intro l x W K hK
   gi_wp2
   exact hK
  case body =>
   clear hI0 hI1 hq hkb e1;intro l pre x W hi hlt;rw[HI.o ()] at hi;obtain⟨Γ1,q1,i1,i2,i3,i4,i5,i6,i7⟩:=hi;obtain⟨y,hy⟩:∃ y:Nat,y=x.1:=⟨_,rfl⟩;rw[←hy];have hle:y<=xs.length:=HV.o.le y (by rw[hy];exact x.2.2);have c3:W.cell? ⟨w.heap.size,0,none⟩=some (.pointer (some ⟨g,o,none⟩)):=by
    have:=(i5 w.heap.size yii).trans HX0.o;simp[World.cell?,this]
   have c4:W.cell? ⟨w.heap.size+1,0,none⟩=some (.slice A xs.length c):=by
    have:=(i5 (w.heap.size+1) yii).trans HX1.o;simp[World.cell?,this]
   have c7:W.cell? ⟨w2.heap.size,0,none⟩=some (.slice (some ⟨gf,0,none⟩) (xs.length / 64+1) cf):=by
    have:=(i5 w2.heap.size yii).trans HX2.o;simp[World.cell?,this]
   have hdr:Below W.heap.size W W.drew:=(yf6 _ _).drew;have hleW:B<=W.heap.size:=yfa HH.o.le i2.below.size;have hask:=(HH.o.ext i2 i1).stays hdr;have htf:=zph (c:=c) ih hask (i2.F _ _ _ HE.o) hle;unfold RetEndsP at htf;have HTF:=Zh htf;have HI1:=Zh i1;have HI2:=Zh i2;have HI3:=Zh i3;have HI4:=Zh i4;have HI5:=Zh i5;have HI7:=Zh i7;have HLW:=Zh hleW;have HDR:=Zh hdr;have HY:=Zh (fun _:Unit=>hy);clear i1 i2 i3 i4 i5 i7 hdr hask htf hy hleW hlt;have hd:1<=3-1-1:=by decide
   gi_wp2
   refine wpIn_region_any hmx (zdf yih (by rintro⟨_,_,h⟩;exact h) _ _ _ _ (wpAny_of_held (S:=fun w'=>w'.cell? ⟨w2.heap.size,0,none⟩=some (.slice (some ⟨gf,0,none⟩) (xs.length / 64+1) cf)∧w'.cell? ⟨w.heap.size,0,none⟩=some (.pointer (some ⟨g,o,none⟩))∧w'.cell? ⟨w.heap.size+1,0,none⟩=some (.slice A xs.length c)) _ _ _ _ ?_));change wpAnyH _ _ _ _ _ _ _ _ (World.drew _);refine wpAnyH_take (i:=0) (v := .slice (some ⟨gf,0,none⟩) (xs.length / 64+1) cf) rfl yih yih yih (fun _ _ _ h=>h) (Or.inl ⟨by rfl,fun w' hS=>by obtain⟨t1,t2,t3⟩:=hS;go_simp⟩) ⟨c7,c3,c4⟩ ?_;refine wpAnyH_take (i:=1) (v := .pointer (some ⟨g,o,none⟩)) rfl yih yih yih (fun _ _ _ h=>h) (Or.inl ⟨by rfl,fun w' hS=>by obtain⟨t1,t2,t3⟩:=hS;go_simp⟩) ⟨c7,c3,c4⟩ ?_;refine wpAnyH_take (i:=2) (v := .slice A xs.length c) rfl yih yih yih (fun _ _ _ h=>h) (Or.inl ⟨by rfl,fun w' hS=>by obtain⟨t1,t2,t3⟩:=hS;go_simp⟩) ⟨c7,c3,c4⟩ ?_;refine wpAnyH_take (i:=3) (v := .int .i64 (y:Int)) rfl yih yih yih (fun _ _ _ h=>h) (Or.inl ⟨by rfl,fun w' hS=>by go_simp⟩) ⟨c7,c3,c4⟩ ?_;refine wpAnyH_ready (rs:=[4]) yih yii (AllReadyH.cons rfl (fun K hK=>?_) AllReadyH.nil);go_simp;go_at_call 71
   with_reducible refine HTF.o.mono ?_
   rintro e1 wa ⟨v2,q2,Γ2,rfl,hi2,hx2,hv2,hq2⟩;have b0:=(hx2.still w.heap.size (zc3 (w:=W.drew) ((HI5.o w.heap.size yii).trans HX0.o) yij yij)).trans ((HI5.o w.heap.size yii).trans HX0.o);have b1:=(hx2.still (w.heap.size+1) (zc3 (w:=W.drew) ((HI5.o (w.heap.size+1) yii).trans HX1.o) yij yij)).trans ((HI5.o (w.heap.size+1) yii).trans HX1.o);have b2:=(hx2.box w2.heap.size _ ((HI5.o w2.heap.size yii).trans HX2.o) HI7.o).trans ((HI5.o w2.heap.size yii).trans HX2.o);have HXB:=Zh ((HI2.o.trans (Ext.stays Γ1 HDR.o HLW.o)).trans hx2);have HMA:=Zh ((HI3.o.kept HDR.o).ext hx2);have HI2':=Zh hi2;have HX2':=Zh hx2;have HV2':=Zh hv2;have HQ2':=Zh hq2;have HB0:=Zh b0;have HB1:=Zh b1;have HB2':=Zh b2;clear hi2 hx2 hv2 hq2 b0 b1 b2;refine hK.out _ _ ⟨by simp[World.cell?,HB2'.o],by simp[World.cell?,HB0.o],by simp[World.cell?,HB1.o]⟩ (fun hHeld=>?_);clear hHeld hK K;have hjo:=zim wa w.heap.size 0 (xs.length / 64+1) _ _ q1 q2 HMA.o.pl HV2'.o.pl HXB.o.below.size hm0 hm;unfold zhj at hjo;have HJO:=Zh hjo;clear hjo;refine wpAnyH_ready (rs:=[5]) yih yii (AllReadyH.cons rfl (fun K hK=>?_) AllReadyH.nil);go_simp;go_at_call 53
   with_reducible refine HJO.o.mono ?_
   rintro e1 wb ⟨rfl,hv7,hg7⟩;obtain⟨j1,j2,j3⟩:=HMA.o.set hm0 HI2'.o HXB.o hv7 hg7 HH.o.le;have hrow:∀ j,(Value.slice (some ⟨gf,0,none⟩) (xs.length / 64+1) cf).ownBlock=some j->j=gf:=fun j e=>by cases e;rfl
   have hblk:∀ b,b<wa.heap.size->b≠gf->wb.heap[b]?=wa.heap[b]?:=fun b h1 h2=>hg7.block b h1 (fun e=>h2 (hrow b e.symm))
   have hsa:=HX2'.o.below.size;have hsa':W.heap.size<=wa.heap.size:=hsa;have k0:=(hblk w.heap.size yie yie).trans HB0.o;have k1:=(hblk (w.heap.size+1) yie yie).trans HB1.o;have k2:=(hblk w2.heap.size yie yie).trans HB2'.o;refine hK.out _ _ ⟨by simp[World.cell?,k2],by simp[World.cell?,k0],by simp[World.cell?,k1]⟩ (fun hHeld=>?_);clear hHeld hK K;refine wpAnyH_done yih ?_ _;have htB:=HH.o.tabB;have hleB:=HH.o.le;have hgsb:∃ cur,W.heap[gs]?=some (.cells cur 47 (0,0)):=by
    rcases (HV.o.ext HI2.o).pl.2 with ⟨e,_⟩|⟨g',cap',cur,e,_,hg',_⟩
    .cases e
    .injection e with e
     injection e with e
     injection e with e
     rw[←e] at hg';exact⟨cur,hg'⟩
   obtain⟨curs,hgsb⟩:=hgsb;refine⟨(((KeepsOthers.drew W).from _).trans (zwj HX2'.o)).trans (KeepsFrom.of_grownBy hg7 fun j e=>by have:=hrow j e;omega),⟨yfa hsa' hg7.size,(hblk gs yie yie).trans (HX2'.o.still gs (zc3 (w:=W.drew) hgsb yij yij)),(hblk _ yie yie).trans (HX2'.o.below.block _ htB)⟩,?_⟩;rw[HI.o ()];refine⟨Γ2,orP q1 q2,j1,j2,j3,fun z=>?_,fun b hb=>?_,yfa i6 (yfa hsa' hg7.size),fun t ht=>?_⟩
   .have e1:=HI4.o z;have e2:=HQ2'.o z;simp only[orP,yh6,e1,e2,yfm,yfn];constructor
    .rintro (⟨y',h1,h2⟩|h2)
     .exact⟨y',.inl h1,h2⟩
     .exact⟨x,.inr rfl,by rw[←HY.o ()];exact h2⟩
    .rintro⟨y',h1|h1,h2⟩
     .exact .inl ⟨y',h1,h2⟩
     .subst h1;exact .inr (by rw[HY.o ()];exact h2)
   .rcases hb with rfl|rfl|rfl
    .exact k0.trans HX0.o.symm
    .exact k1.trans HX1.o.symm
    .exact k2.trans HX2.o.symm
   .rcases HX2'.o.newG _ _ ht with h1|h1
    .exact HI7.o t h1
    .have h2:W.heap.size<=w2.heap.size:=h1;omega
  case done =>
   clear hI0 hI1 hq hkb e1;intro D ys W hD hys hi hK;rw[HI.o ()] at hi;obtain⟨Γ1,q1,i1,i2,i3,i4,i5,i6,i7⟩:=hi;have r2:W.cell? ⟨w2.heap.size,0,none⟩=some (.slice (some ⟨gf,0,none⟩) (xs.length / 64+1) cf):=by
    have:=(i5 w2.heap.size yii).trans HX2.o;simp[World.cell?,this]
   have HK:=Zh hK;have HI1:=Zh i1;have HI2:=Zh i2;have HI3:=Zh i3;have HI4:=Zh i4;have HYS:=Zh (fun _:Unit=>hys);clear hK i1 i2 i3 i4 i5 i7 hys
   gi_wp2
   refine⟨by simp,.inl ⟨_,_,rfl,run_takeDeferred HK.o,?_⟩⟩;have hgo:=grownBy_putObj' W D (.deferred none);have hrow:∀ r,some D=some r->∃ o:Obj,W.heap[r]?=some o∧o.isCells=false:=fun r e=>by cases e;exact⟨_,HK.o,rfl⟩
   have hwf:=(HH.o.inv.inv.part g o _ HE.o).2.wf;have hiff:∀ x,q1 x=true↔img (E xs (.mk 4 za9 ln hn [u])) (fun i=>q i=true) x:=fun x=>by
    rw[HI4.o x];constructor
    .rintro⟨y,_,hE⟩;exact⟨y.1,y.2.2,hE⟩
    .rintro⟨i,hqi,hE⟩;have hil:=HV.o.le i hqi;have hmem:i∈ys.map (·.1):=(by rw[HYS.o ()];exact upP_mem.2 ⟨by omega,hqi⟩);obtain⟨y,hy,rfl⟩:=yg6.1 hmem;exact⟨y,hy,hE⟩
   refine⟨_,results_tmp rfl _ _ _,.slice (some ⟨gf,0,none⟩) (xs.length / 64+1) cf,q1,Γ1,rfl,HI1.o.turn hgo hrow,HI2.o.turn HI1.o hgo HH.o.le (fun r e=>⟨by cases e;have:=HB5.o.size;omega,hrow r e⟩),HI3.o.turn hgo hrow,fun x hx=>?_,hiff⟩;obtain⟨i,hqi,hE⟩:=(hiff x).1 hx;exact (E_bd hwf i x (HV.o.le i hqi) hE).2
  case stop =>
   rintro D c pre W _ _ h _;exact h.elim
end
section
attribute [local go_sem ↓] Go.wp_at_zero Go.wp_at_succ
theorem RetEndsP.congr {B:Nat} {w w':World} {xs:List Int} {Γ:Ghost} {P Q:Nat->Prop} {e:Ending} (h:RetEndsP B w xs Γ P e w') (hq:∀ x,P x↔Q x):RetEndsP B w xs Γ Q e w':=by
 obtain⟨v,q,Γ',h1,h2,h3,h4,h5⟩:=h;exact⟨v,q,Γ',h1,h2,h3,h4,fun x=>(h5 x).trans (hq x)⟩
theorem zv8 {w:World} {B c:Nat} {xs:List Int} {A:Option Addr} {Γ:Ghost} {g o:Nat} {l:List T} {v:Value} {q:Nat->Bool} (ih:∀ u∈l,zne u) (h:Ask w B xs A Γ) (e:Γ.F g o=some (.mk 2 za9 0 0 l)) (hv:InW w xs v q):
 Calls Tryd.prog 30 #[.pointer (some ⟨g,o,none⟩),.slice A xs.length c,v] w (RetEndsP B w xs Γ (img (ECat xs l) fun i=>q i=true)):=by
 have hkid:∀ W Γ' (j:Nat) (hj:j<l.length),Ask W B xs A Γ'->Γ'.F g o=some (.mk 2 za9 0 0 l)->Calls Tryd.prog 51 #[.pointer (some ⟨g,o,none⟩),.int .i64 j] W (zhk B W xs Γ' (l[j]'hj)):=fun W Γ' j hj ha he=>yc5 ha.inv.inv ha.le he j hj
 unfold zhk at hkid;have hend:∀ u,u∈l->∀ W Γ' g' o' v' q',Ask W B xs A Γ'->Γ'.F g' o'=some u->InW W xs v' q'->Calls Tryd.prog 30 #[.pointer (some ⟨g',o',none⟩),.slice A xs.length c,v'] W (RetEndsP B W xs Γ' (img (E xs u) fun i=>q' i=true)):=fun u hu W Γ' g' o' v' q' ha he hv=>ih u hu W B c xs A Γ' g' o' v' q' ha he hv
 unfold RetEndsP at hend;have hm:xs.length / 64+1<=1000000:=(by have:=h.len;omega);have hm0:0<xs.length / 64+1:=yie;have hp:=(h.inv.inv.part g o _ e).2;have hlen:=h.len;have hn202:l.length<=202:=by
  have hwf:=hp.wf;cases hwf <;> assumption
 obtain⟨gn,on,kn,n1,n2,n3,curn,n4⟩:=hp.node;obtain⟨A',nk,ck,rfl⟩:=n3.form;obtain⟨hnk,_⟩:=n3.bound;have hnl:nk=l.length:=hnk;have n0:w.cell? ⟨gn,on,none⟩=some (.int .i64 2):=n2 0 _ rfl;have n7:w.cell? ⟨gn,on+7,none⟩=some (.slice A' nk ck):=n2 7 _ rfl;have HKID:=Zh hkid;have HEND:=Zh hend;have HH:=Zh h;have HE:=Zh e;have HV:=Zh hv;have HNL:=Zh (fun _:Unit=>hnl);have HNW:=Zh (zf8 w xs.length yie);unfold zf2 at HNW;have HGN:=Zh (za0 n4);have hnk2:nk<=202:=yie;clear hkid hend h e hv hp n2 n3 hnk hnl n4 ih hn202;go_enter Tryd.func30,Tryd.ntmps30;go_wp2;go_loopg [2,33] nk (fun m' now i wr=>∃ (j:Nat) (q':Nat->Bool) (Γ':Ghost),i = .int .i64 (j:Int)∧j<=nk∧m'=nk-j∧Ask wr B xs A Γ'∧Ext B w wr Γ Γ'∧InW wr xs now q'∧∀ x,q' x=true↔img (ECat xs (l.take j)) (fun i=>q i=true) x)
 case atStart=>exact⟨0,q,Γ,rfl,yf8 _,rfl,HH.o,Ext.refl _ _ _,HV.o,fun x=>by simp[img,ECat]⟩
 case round =>
  obtain⟨j,q1,Γ1,rfl,hj,hmj,ha1,hx1,hv1,hq1⟩:=hrel;have HMJ:=Zh hmj;have HA1:=Zh ha1;have HX1:=Zh hx1;have HV1:=Zh hv1;have HQ1:=Zh hq1;clear hmj ha1 hx1 hv1 hq1
  by_cases hlt:j<nk
  .have hji:(j:Int)<(nk:Int):=yie;have hjl:j<l.length:=(by have:=HNL.o ();omega);have HNO:=Zh (zvk wr 0 (xs.length / 64+1) u2 q1 HV1.o.pl hm0 hm);have hst:∀ x,img (E xs (l[j]'hjl)) (fun i=>q1 i=true) x↔img (ECat xs (l.take (j+1))) (fun i=>q i=true) x:=fun x=>by
    rw[zjr (fun i=>HQ1.o i) x];constructor
    .rintro⟨y,⟨i,hi,h1⟩,h2⟩;exact⟨i,hi,(zpd l j hjl i x).2 ⟨y,h1,h2⟩⟩
    .rintro⟨i,hi,h1⟩;obtain⟨y,h2,h3⟩:=(zpd l j hjl i x).1 h1;exact⟨y,⟨i,hi,h2⟩,h3⟩
   have HST:=Zh hst;have HKJ:=Zh (HKID.o wr Γ1 j hjl HA1.o (HX1.o.F _ _ _ HE.o));have HMEM:=Zh (yfq hjl);clear hst;generalize l[j]'hjl=u at *;go_wp2_with fail;go_at_call 50
   with_reducible refine HNO.o.mono ?_
   rintro e6 w6 ⟨b6,rfl,hb6,rfl⟩;have HB6:=Zh hb6;clear hb6 HNO;cases b6
   .go_wp2_with (first
     | (go_at_call 51;(with_reducible refine HKJ.o.mono ?_);rintro e1 w1 ⟨g1,o1,Γ2,rfl,hf1,hi1,hx2,hM2⟩;have HA2:=Zh (zk9 HA1.o hi1 hx2 hM2);have HX2:=Zh hx2;have HF1:=Zh hf1;clear hf1 hi1 hx2 hM2)
     | (go_at_call 30;(with_reducible refine (HEND.o u HMEM.o _ _ _ _ _ _ HA2.o HF1.o (HV1.o.ext HX2.o)).mono ?_);rintro e2 w2 ⟨v2,q2,Γ3,rfl,hi3,hx3,hv3,hq3⟩;have HA3:=Zh (HA2.o.ext hx3 hi3);have HX3:=Zh hx3;have HV3:=Zh hv3;have HQ3:=Zh hq3;clear hi3 hx3 hv3 hq3))
    go_roundg (nk-(j+1))
    case measure=>have:=HMJ.o;omega
    case rel=>exact⟨j+1,q2,Γ3,by go_num,by omega,rfl,HA3.o,(HX1.o.trans HX2.o).trans HX3.o,HV3.o,fun x=>(HQ3.o x).trans (HST.o x)⟩
   .go_wp2;go_ret;refine⟨u2,q1,Γ1,rfl,HA1.o.inv,HX1.o,HV1.o,fun x=>?_⟩;have hz:∀ x,¬ q1 x=true:=fun x hx=>by
     have h1:=HV1.o.le x hx;have h2:=HB6.o.1 (by trivial) x yie;rw[h2] at hx;cases hx
    constructor
    .intro hx;exact absurd hx (hz x)
    .rintro⟨i,hi,hE⟩;have hsp:l=l.take j++l.drop j:=(yhj j l).symm;rw[hsp,zsk] at hE;obtain⟨y,h1,_⟩:=hE;exact absurd ((HQ1.o y).2 ⟨i,hi,h1⟩) (hz y)
  .have hjn:j=l.length:=(by have:=HNL.o ();omega);have hji:¬ ((j:Int)<(nk:Int)):=yie;have HJN:=Zh (fun _:Unit=>hjn);clear hlt hjn;go_wp2;go_ret;refine⟨u2,q1,Γ1,rfl,HA1.o.inv,HX1.o,HV1.o,fun x=>?_⟩;have:=HQ1.o x
   rwa [HJN.o (),yfy] at this
theorem zua {xs:List Int} {l:List T} {j:Nat} (h:j<l.length) {S:Nat->Prop} (x:Nat):img (EAny xs (l.take (j+1))) S x↔img (EAny xs (l.take j)) S x∨img (E xs (l[j]'h)) S x:=by
 constructor
 .rintro⟨i,hi,h1⟩;rcases (zke l j h i x).1 h1 with h2|h2
  .exact .inl ⟨i,hi,h2⟩
  .exact .inr ⟨i,hi,h2⟩
 .rintro (⟨i,hi,h1⟩|⟨i,hi,h1⟩)
  .exact⟨i,hi,(zke l j h i x).2 (.inl h1)⟩
  .exact⟨i,hi,(zke l j h i x).2 (.inr h1)⟩
theorem zv9 {w:World} {B c:Nat} {xs:List Int} {A:Option Addr} {Γ:Ghost} {g o:Nat} {l:List T} {v:Value} {q:Nat->Bool} (ih:∀ u∈l,zne u) (h:Ask w B xs A Γ) (e:Γ.F g o=some (.mk 3 za9 0 0 l)) (hv:InW w xs v q):
 Calls Tryd.prog 30 #[.pointer (some ⟨g,o,none⟩),.slice A xs.length c,v] w (RetEndsP B w xs Γ (img (EAny xs l) fun i=>q i=true)):=by
 have hkid:∀ W Γ' (j:Nat) (hj:j<l.length),Ask W B xs A Γ'->Γ'.F g o=some (.mk 3 za9 0 0 l)->Calls Tryd.prog 51 #[.pointer (some ⟨g,o,none⟩),.int .i64 j] W (zhk B W xs Γ' (l[j]'hj)):=fun W Γ' j hj ha he=>yc5 ha.inv.inv ha.le he j hj
 unfold zhk at hkid;have hend:∀ u,u∈l->∀ W Γ' g' o' v' q',Ask W B xs A Γ'->Γ'.F g' o'=some u->InW W xs v' q'->Calls Tryd.prog 30 #[.pointer (some ⟨g',o',none⟩),.slice A xs.length c,v'] W (RetEndsP B W xs Γ' (img (E xs u) fun i=>q' i=true)):=fun u hu W Γ' g' o' v' q' ha he hv=>ih u hu W B c xs A Γ' g' o' v' q' ha he hv
 unfold RetEndsP at hend;have hm:xs.length / 64+1<=1000000:=(by have:=h.len;omega);have hm0:0<xs.length / 64+1:=yie;have hp:=(h.inv.inv.part g o _ e).2;have hlen:=h.len;have hn202:l.length<=202:=by
  have hwf:=hp.wf;cases hwf <;> assumption
 obtain⟨gn,on,kn,n1,n2,n3,curn,n4⟩:=hp.node;obtain⟨A',nk,ck,rfl⟩:=n3.form;obtain⟨hnk,_⟩:=n3.bound;have hnl:nk=l.length:=hnk;have n0:w.cell? ⟨gn,on,none⟩=some (.int .i64 3):=n2 0 _ rfl;have n7:w.cell? ⟨gn,on+7,none⟩=some (.slice A' nk ck):=n2 7 _ rfl;have HKID:=Zh hkid;have HEND:=Zh hend;have HH:=Zh h;have HE:=Zh e;have HV:=Zh hv;have HNL:=Zh (fun _:Unit=>hnl);have HNW:=Zh (zf8 w xs.length yie);unfold zf2 at HNW;have HGN:=Zh (za0 n4);have hnk2:nk<=202:=yie;clear hkid hend h e hv hp n2 n3 hnk hnl n4 ih hn202;go_enter Tryd.func30,Tryd.ntmps30;have N1:=Zh n1;have N7:=Zh n7;have HGW:=Zh (HH.o.inv.inv.old HE.o);go_wp2_with (go_at_call 52;(with_reducible refine HNW.o.mono ?_);rintro e1 w1 ⟨vg,rfl,hvg,hb1⟩;have k1:=(hb1.cell (p:=⟨g,o,none⟩) HGW.o).trans N1.o;have k7:=(hb1.cell (p:=⟨gn,on+7,none⟩) HGN.o).trans N7.o;have HVG:=Zh hvg;have HB1:=Zh hb1;clear hvg hb1);have HMI:=Zh (Mine.new (w0:=w) HH.o.inv HVG.o (yez _));have HA0:=Zh (HH.o.stays HB1.o);have HX0:=Zh (Ext.stays Γ HB1.o HH.o.le);have HV0:=Zh (HV.o.stays HB1.o);clear k1 k7;go_loopg [59] nk (fun m' i wr=>∃ (j:Nat) (qg:Nat->Bool) (Γ':Ghost),i = .int .i64 (j:Int)∧j<=nk∧m'=nk-j∧Ask wr B xs A Γ'∧Ext B w wr Γ Γ'∧InW wr xs v q∧Mine w wr B Γ' vg (xs.length / 64+1) qg∧(∀ x,qg x=true->x<=xs.length)∧∀ x,qg x=true↔img (EAny xs (l.take j)) (fun i=>q i=true) x)
 case atStart=>exact⟨0,za9,Γ,rfl,yf8 _,rfl,HA0.o,HX0.o,HV0.o,HMI.o,fun x hx=>by simp[za9] at hx,fun x=>by simp[img,EAny,za9]⟩
 case round =>
  obtain⟨j,qg,Γ1,rfl,hj,hmj,ha1,hx1,hv1,hg1,hle1,hq1⟩:=hrel;have HMJ:=Zh hmj;have HA1:=Zh ha1;have HX1:=Zh hx1;have HV1:=Zh hv1;have HG1:=Zh hg1;have HLE1:=Zh hle1;have HQ1:=Zh hq1;clear hmj ha1 hx1 hv1 hg1 hle1 hq1
  by_cases hlt:j<nk
  .have hji:(j:Int)<(nk:Int):=yie;have hjl:j<l.length:=(by have:=HNL.o ();omega);have HST:=Zh (fun x=>zua (xs:=xs) hjl (S:=fun i=>q i=true) x);have HKJ:=Zh (HKID.o wr Γ1 j hjl HA1.o (HX1.o.F _ _ _ HE.o));have HMEM:=Zh (yfq hjl);generalize l[j]'hjl=u at *;go_wp2_with (first
    | (go_at_call 51;(with_reducible refine HKJ.o.mono ?_);rintro e1 w1 ⟨g1,o1,Γ2,rfl,hf1,hi1,hx2,hM2⟩;have HA2:=Zh (zk9 HA1.o hi1 hx2 hM2);have HX2:=Zh hx2;have HF1:=Zh hf1;clear hf1 hi1 hx2 hM2)
    | (go_at_call 30;(with_reducible refine (HEND.o u HMEM.o _ _ _ _ _ _ HA2.o HF1.o (HV1.o.ext HX2.o)).mono ?_);rintro e2 w2 ⟨v2,q2,Γ3,rfl,hi3,hx3,hv3,hq3⟩;have HA3:=Zh (HA2.o.ext hx3 hi3);have HX3:=Zh hx3;have HV3:=Zh hv3;have HQ3:=Zh hq3;have HG3:=Zh ((HG1.o.ext HX2.o).ext hx3);have HX4:=Zh ((HX1.o.trans HX2.o).trans hx3);have hjo:=zim w2 w.heap.size 0 (xs.length / 64+1) vg v2 qg q2 HG3.o.pl hv3.pl HX4.o.below.size hm0 hm;unfold zhj at hjo;have HJO:=Zh hjo;clear hi3 hx3 hv3 hq3 hjo)
    | (go_at_call 53;(with_reducible refine HJO.o.mono ?_);rintro e7 w7 ⟨rfl,hv7,hg7⟩;have HV7:=Zh hv7;have HG7:=Zh hg7;clear hv7 hg7))
   go_roundg (nk-(j+1))
   case measure=>have:=HMJ.o;omega
   case rel =>
    obtain⟨z1,z2,z3⟩:=HG3.o.set hm0 HA3.o.inv HX4.o HV7.o HG7.o HH.o.le;have hin:InW w7 xs v q:=by
     have h1:=(HV1.o.ext HX2.o).ext HX3.o;have h2:=HV.o.ext z2;exact h2
    refine⟨j+1,orP qg q2,Γ3,by go_num,by omega,rfl,HH.o.ext z2 z1,z2,hin,z3,fun x hx=>?_,fun x=>?_⟩
    .simp only[orP,yh6] at hx;rcases hx with hx|hx
     .exact HLE1.o x hx
     .exact HV3.o.le x hx
    .rw[HST.o x,←HQ1.o x,←HQ3.o x];simp[orP]
  .have hjn:j=l.length:=(by have:=HNL.o ();omega);have hji:¬ ((j:Int)<(nk:Int)):=yie;have HJN:=Zh (fun _:Unit=>hjn);clear hlt hjn;go_wp2;go_ret;refine⟨vg,qg,Γ1,rfl,HA1.o.inv,HX1.o,⟨HG1.o.pl.lower (yf8 _),HLE1.o⟩,fun x=>?_⟩;have:=HQ1.o x
   rwa [HJN.o (),yfy] at this
theorem zv7 {w:World} {B c:Nat} {xs:List Int} {A:Option Addr} {Γ:Ghost} {g o:Nat} {p:Nat->Bool} {v:Value} {q:Nat->Bool} (h:Ask w B xs A Γ) (e:Γ.F g o=some (.mk 1 p 0 0 [])) (hv:InW w xs v q):
 Calls Tryd.prog 30 #[.pointer (some ⟨g,o,none⟩),.slice A xs.length c,v] w (RetEndsP B w xs Γ (img (E xs (.mk 1 p 0 0 [])) fun i=>q i=true)):=by
 have hbe:=ya9 (c:=c) h e rfl hv;have HBE:=Zh hbe;obtain⟨gn,on,kn,n1,n2,n3,curn,n4⟩:=(h.inv.inv.part g o _ e).2.node;have n0:w.cell? ⟨gn,on,none⟩=some (.int .i64 1):=n2 0 _ rfl;clear hbe n2 n3 n4 h e hv;go_enter Tryd.func30,Tryd.ntmps30;go_wp2_with (go_at_call 49;(with_reducible refine HBE.o.mono ?_);rintro e1 w1 hr;have HR:=Zh hr.plain;obtain⟨v1,q1,Γ1,rfl,hr2⟩:=hr;clear hr2);go_ret;exact HR.o
theorem zv6 {w:World} {B c:Nat} {xs:List Int} {A:Option Addr} {Γ:Ghost} {g o ln hn:Nat} {u:T} {v:Value} {q:Nat->Bool} (ih:zne u) (h:Ask w B xs A Γ) (e:Γ.F g o=some (.mk 4 za9 ln hn [u])) (hv:InW w xs v q):
 Calls Tryd.prog 30 #[.pointer (some ⟨g,o,none⟩),.slice A xs.length c,v] w (RetEndsP B w xs Γ (img (E xs (.mk 4 za9 ln hn [u])) fun i=>q i=true)):=by
 have hbe:=yb0 (c:=c) ih h e hv;have HBE:=Zh hbe;obtain⟨gn,on,kn,n1,n2,n3,curn,n4⟩:=(h.inv.inv.part g o _ e).2.node;have n0:w.cell? ⟨gn,on,none⟩=some (.int .i64 4):=n2 0 _ rfl;clear hbe n2 n3 n4 h e hv ih;go_enter Tryd.func30,Tryd.ntmps30;go_wp2_with (go_at_call 54;(with_reducible refine HBE.o.mono ?_);rintro e1 w1 hr;have HR:=Zh hr.plain;obtain⟨v1,q1,Γ1,rfl,hr2⟩:=hr;clear hr2);go_ret;exact HR.o
theorem zmf:∀ (N:Nat) (t:T),SizeOf.sizeOf t<=N->WF t->zne t
 | 0,t,h,_=>by obtain⟨op,p,lo,hi,l⟩:=t;simp at h
 | N+1,t,h,hw=>by
  have small:∀ (op:Int) (p:Nat->Bool) (lo hi:Int) (l:List T),t = .mk op p lo hi l->∀ u∈l,SizeOf.sizeOf u<=N:=fun op p lo hi l e u hu=>by
   have:=yhi hu;rw[e] at h;simp at h;omega
  intro w B c xs A Γ g o v q ha he hv;cases hw with
  | one p=>exact zv7 ha he hv
  | cat l h2 hN hk=>exact (zv8 (fun u hu=>zmf N u (small _ _ _ _ _ rfl u hu) (hk u hu)) ha he hv).mono fun e w' hr=>hr.congr fun x=>by simp[img,zu8]
  | alt l h2 hN hk=>exact (zv9 (fun u hu=>zmf N u (small _ _ _ _ _ rfl u hu) (hk u hu)) ha he hv).mono fun e w' hr=>hr.congr fun x=>by simp[img,zu9]
  | rep m n u h0 h1 h2 h3 hk =>
   obtain⟨ln,rfl⟩:∃ k:Nat,m=k:=⟨m.toNat,by omega⟩;obtain⟨hn,rfl⟩:∃ k:Nat,n=k:=⟨n.toNat,by omega⟩;exact zv6 (zmf N u (small _ _ _ _ _ rfl u yii) hk) ha he hv
theorem ybf (t:T) (h:WF t):zne t:=zmf _ t (yez _) h
end
end Go.Proofs.YtipfgpfplakhiaaDoor
